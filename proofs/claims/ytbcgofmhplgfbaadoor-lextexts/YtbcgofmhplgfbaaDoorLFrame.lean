/-
  How an argument that is a slice of tokens reads: a lemma for the row's own step.
-/
import Derived.Test.YtbcgofmhplgfbaaDoorLDoor
import Derived.Test.YtbcgofmhplgfbaaDoorLMem
import Derived.Deep.Slices
namespace Go.Proofs.YtbcgofmhplgfbaaDoor
open Go.ChangeShapes Go.WideShapes Go.ChangeAt Go.RowKit
theorem cTok : Tryd.prog.cellsOf 26 = 4 := by kernel_rfl
theorem cInt : Tryd.prog.cellsOf 3 = 1 := by kernel_rfl
theorem cI32 : Tryd.prog.cellsOf 21 = 1 := by kernel_rfl
theorem tok_cells {H : Type} {enc : TypeId × Value → H} {W : World} {base : Nat} {sp : Nat → Bool} {held : Bool} {fuel : Nat} {cs : List Value} {x : DataW H × List MemPlace}
    (h : DataW.trod enc Tryd.prog W base sp held fuel 26 cs = some x) : ∃ t : Tok, cs = cell4 t := by
  obtain ⟨xs, n, _, _, hl, hlen, hf⟩ := DataW.trod_struct Tryd.underlying26 h
  rw [cTok] at hl
  match cs, hl, xs, hlen with
  | [a, b, c, d], _, [y0, y1, y2, y3], _ =>
    have h0 := hf 0 _ rfl
    have h1 := hf 1 _ rfl
    have h2 := hf 2 _ rfl
    have h3 := hf 3 _ rfl
    obtain ⟨n0, e0, _, _⟩ := DataW.trod_int Tryd.underlying3 h0
    obtain ⟨n1, e1, _, _⟩ := DataW.trod_string Tryd.underlying9 h1
    obtain ⟨n2, e2, _, _⟩ := DataW.trod_int Tryd.underlying21 h2
    obtain ⟨n3, e3, _, _⟩ := DataW.trod_int Tryd.underlying3 h3
    simp [cInt] at e0 e3
    simp [cStr] at e1
    simp [cI32] at e2
    exact ⟨⟨n0, n1.data.toList, n2, n3⟩, by rw [e0, e1, e2, e3]; unfold cell4; rw [str_of]⟩
theorem flat_at (l : List Tok) : ∀ (j : Nat) (u : Value), (csT l)[j]? = some u → ∃ (i r : Nat) (t : Tok), j = i * 4 + r ∧ l[i]? = some t ∧ (cell4 t)[r]? = some u := by
  induction l with
  | nil => intro j u h; simp [csT] at h
  | cons t l ih =>
    intro j u h
    by_cases hj : j < 4
    · refine ⟨0, j, t, by omega, rfl, ?_⟩
      rw [show csT (t :: l) = cell4 t ++ csT l from rfl, List.getElem?_append_left (by exact hj)] at h
      exact h
    · rw [show csT (t :: l) = cell4 t ++ csT l from rfl, List.getElem?_append_right (by show 4 ≤ j; omega)] at h
      obtain ⟨i, r, t', e, h1, h2⟩ := ih (j - 4) u h
      exact ⟨i + 1, r, t', by omega, by simpa using h1, h2⟩
theorem open_toks {H : Type} {enc : TypeId × Value → H} {W : World} {a : Option Addr} {len cap : Nat} {d : DataW H} {p : List MemPlace}
    (h : DataW.Trod enc Tryd.prog W 0 (fun _ => true) true 24 (.slice a len cap) d p) : ∃ l : List Tok, RowT W W.heap.size a len cap l := by
  obtain ⟨fuel, hf⟩ := h
  rcases Go.Deep.open_slice Tryd.underlying24 hf with ⟨hcs, _⟩ | ⟨x, l, c, m, n, D, Pl, hcs, _, hl, hm, hmm, _, hx⟩
  · simp [Value.cells] at hcs
    obtain ⟨rfl, rfl, rfl⟩ := hcs
    exact ⟨[], RowT.none_⟩
  · simp [Value.cells] at hcs
    obtain ⟨rfl, rfl, rfl⟩ := hcs
    have each : ∀ i, i < len → ∃ t : Tok, ∃ b f, x = ⟨b, f, none⟩ ∧ b < W.heap.size ∧ ∀ j u, (cell4 t)[j]? = some u → W.cell? ⟨b, f + i * 4 + j, none⟩ = some u := by
      intro i hi
      obtain ⟨cs, h1, h2⟩ := hx i (by rw [hmm]; split <;> omega)
      rw [cTok] at h1
      obtain ⟨_, hlen, hcell⟩ := World.cells?_some h1
      obtain ⟨o, rfl⟩ := tok_cells h2
      obtain ⟨b, f, sp⟩ := x
      obtain ⟨cs0, g1, g2⟩ := hx 0 (by rw [hmm]; split <;> omega)
      rw [cTok] at g1
      obtain ⟨_, _, gcell⟩ := World.cells?_some g1
      obtain ⟨o0, rfl⟩ := tok_cells g2
      have h0 : W.cell? ⟨b, f, sp⟩ = some (.int .i64 o0.kd) := by
        have := gcell 0 (by omega)
        simpa [Addr.add, cell4] using this
      obtain rfl : sp = none := by simpa using World.cell?_spot h0
      refine ⟨o, b, f, rfl, World.block_lt_of_cell? W _ h0, fun j u hu => ?_⟩
      have hj : j < (cell4 o).length := (List.getElem?_eq_some_iff.1 hu).1
      have h3 := hcell j (by rw [← hlen]; exact hj)
      rw [Addr.add_lit, Addr.add_lit] at h3
      rw [h3]
      first | exact hu | simpa using hu
    refine ⟨(List.range len).map fun i => if h : i < len then Classical.choose (each i h) else ⟨0, [], 0, 0⟩, by simp, hl, hm, (fun e => by cases e), fun hn => ?_⟩
    obtain ⟨_, b, f, e, hb, _⟩ := each 0 hn
    refine ⟨b, f, by rw [e], hb, fun j u hu => ?_⟩
    obtain ⟨i, r, t, rfl, h1, h2⟩ := flat_at _ j u hu
    rw [List.getElem?_map] at h1
    by_cases hi : i < len
    · rw [List.getElem?_range hi] at h1
      simp [hi] at h1
      subst h1
      obtain ⟨b', f', e', _, hc⟩ := Classical.choose_spec (each i hi)
      rw [e] at e'
      obtain ⟨rfl, rfl⟩ : b = b' ∧ f = f' := by simpa using e'
      rw [← Nat.add_assoc]
      exact hc r u h2
    · rw [List.getElem?_eq_none (by simpa using hi)] at h1
      cases h1
end Go.Proofs.YtbcgofmhplgfbaaDoor
