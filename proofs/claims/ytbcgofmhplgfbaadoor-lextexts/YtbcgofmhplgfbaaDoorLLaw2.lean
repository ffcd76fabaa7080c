/-
  The walk of LexTexts: it returns true, and turns nothing that was there.
-/
import Derived.Test.YtbcgofmhplgfbaaDoorLKnown
namespace Go.Proofs.YtbcgofmhplgfbaaDoor
open Go.RowKit
set_option maxHeartbeats 1000000

theorem sum_small (l : List Tok) (h : ∀ (j : Nat) (t : Tok), l[j]? = some t → t.tx.length ≤ 1000) : sumL l ≤ 1001 * l.length := by
  induction l with
  | nil => simp [sumL]
  | cons t r ih =>
    have h0 := h 0 t rfl
    have := ih (fun j u hu => h (j + 1) u (by simpa using hu))
    rw [show sumL (t :: r) = t.tx.length + 1 + sumL r by simp [sumL], List.length_cons]
    omega
def Small (l : List Tok) (k : Nat) : Prop := ∀ (j : Nat) (t : Tok), j < k → l[j]? = some t → t.tx.length ≤ 1000
theorem texts_walk (A : Option Addr) (n c : Nat) (l : List Tok) (w : World) (hr : RowT w w.heap.size A n c l) (he : Env w) :
    Calls Tryd.prog 4 #[.slice A n c] w fun e w' => e = .returned (.bool true) ∧ Below w.heap.size w w' := by
  have hn := hr.len
  subst hn
  have hcap := hr.cap
  have hmx := hr.max
  unfold maxLen at hmx
  by_cases hbig : 500 < l.length
  · go_enter Tryd.func4, Tryd.ntmps4
    go_wp2_with (refine (lknown_any _ he).mono ?_; rintro e w' ⟨rfl, b⟩)
    go_ret
    exact ⟨rfl, b⟩
  have hl5 : l.length ≤ 500 := by omega
  go_enter Tryd.func4, Tryd.ntmps4
  go_wp2_with fail
  go_loop [3] (fun i => ∃ j : Nat, i = .int .i64 (j : Int) ∧ j ≤ l.length ∧ Hid (Small l j)) (fun i => l.length - (intOf i).toNat)
  case atStart => exact ⟨0, rfl, Nat.zero_le _, hide fun j t hj => absurd hj (by omega)⟩
  case round =>
    obtain ⟨j, rfl, hj, HS⟩ := hrel
    by_cases hlt : j < l.length
    · obtain ⟨b, o, t, rfl, _, hu, c0, c1, c2, c3⟩ := hr.get hlt
      have hz := str_size t.tx
      by_cases hb : 1000 < t.tx.length
      · have hb' : 1000 < (str t.tx).size := by omega
        clear hz hu
        go_wp2_with (refine (lknown_any _ he).mono ?_; rintro e w' ⟨rfl, b⟩)
        go_ret
        exact ⟨rfl, b⟩
      · have hb' : (str t.tx).size ≤ 1000 := by omega
        have HS2 : Hid (Small l (j + 1)) := hide fun i u hi hiu => by
          by_cases e : i = j
          · subst e; rw [hu] at hiu; injection hiu with hiu; subst hiu; omega
          · exact HS.out i u (by omega) hiu
        clear hz hu
        go_wp2_with fail
        go_round
        case rel => exact ⟨j + 1, by go_num, by omega, HS2⟩
        case measure => simp [intOf]; omega
    · obtain rfl : j = l.length := by omega
      have hsum : sumL l ≤ 1000000 := by
        have := sum_small l (fun i t hi => HS.out i t (List.getElem?_eq_some_iff.1 hi).1 hi)
        omega
      go_wp2_with fail
      refine (Text_any w.heap.size A l.length c l w hr (Nat.le_refl _) hsum).mono ?_
      rintro e w1 ⟨rfl, b1⟩
      go_wp2_with fail
      refine (rText_any w.heap.size A l.length c l w1 (hr.keep b1 (Nat.le_refl _)) hsum).mono ?_
      rintro e w2 ⟨rfl, rfl⟩
      have he1 := he.keep b1
      go_wp2_with fail
      refine (lknown_any w1 he1).mono ?_
      rintro e w3 ⟨rfl, b3⟩
      go_wp2
      go_ret
      exact ⟨rfl, b1.trans (b3.mono b1.size)⟩
end Go.Proofs.YtbcgofmhplgfbaaDoor
