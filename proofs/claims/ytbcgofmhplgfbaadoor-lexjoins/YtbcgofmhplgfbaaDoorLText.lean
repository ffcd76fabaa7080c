/-
  Contract of package lex: Text.
-/
import Derived.Test.YtbcgofmhplgfbaaDoorLScan
namespace Go.Proofs.YtbcgofmhplgfbaaDoor
open Go.RowKit
set_option maxHeartbeats 2000000

theorem sumL_app (a b : List Tok) : sumL (a ++ b) = sumL a + sumL b := by simp [sumL]
theorem sumL_take (l : List Tok) (j : Nat) : sumL (l.take j) ≤ sumL l := by
  have := sumL_app (l.take j) (l.drop j)
  rw [List.take_append_drop] at this
  omega
theorem textL_snoc {l : List Tok} (h : l ≠ []) (t : Tok) : textL (l ++ [t]) = textL l ++ [32] ++ t.tx := by
  obtain ⟨u, r, rfl⟩ := List.exists_cons_of_ne_nil h
  simp [textL]
theorem text_step {l : List Tok} {j : Nat} {t : Tok} (h : l[j]? = some t) (h0 : 0 < j) : textL (l.take (j + 1)) = textL (l.take j) ++ [32] ++ t.tx ∧ (textL (l.take j)).length ≤ sumL l ∧ t.tx.length ≤ sumL l := by
  obtain ⟨hj, rfl⟩ := List.getElem?_eq_some_iff.1 h
  have e : l.take (j + 1) = l.take j ++ [l[j]] := List.take_succ_eq_append_getElem hj
  have h1 := textL_len (l.take j)
  have h2 := sumL_take l j
  have h3 := sumL_take l (j + 1)
  rw [e, sumL_app] at h3
  have h4 : sumL [l[j]] = l[j].tx.length + 1 := by simp [sumL]
  refine ⟨?_, by omega, by omega⟩
  rw [e]
  apply textL_snoc
  intro e2
  have := congrArg List.length e2
  rw [List.length_take, List.length_nil, Nat.min_eq_left (by omega)] at this
  omega
theorem text_first {l : List Tok} {t : Tok} (h : l[0]? = some t) : textL (l.take 1) = t.tx ∧ t.tx.length ≤ sumL l := by
  obtain ⟨hj, rfl⟩ := List.getElem?_eq_some_iff.1 h
  match l, hj with
  | u :: r, _ => exact ⟨by simp [textL], by simp [sumL]; omega⟩
theorem Blk.others {w w' : World} {g b : Nat} {cs : List Value} (h : Blk w g 26 cs) (k : Lib.OthersKept 5 (some b) w w') (hne : g ≠ b) : Blk w' g 26 cs :=
  k g _ h (by simpa using hne) (fun c fz e => by cases e)
theorem cells_str (l : List UInt8) : Lib.strCells (str l) = Lib.byteCells l := by rw [Lib.strCells_eq, str_list]
theorem cells_sp : [Value.int .u8 32] = Lib.byteCells [32] := rfl
theorem Text_any (B : Nat) (A : Option Addr) (n c : Nat) (l : List Tok) (w : World) (hr : RowT w B A n c l) (hB : B ≤ w.heap.size) (hsum : sumL l ≤ 1000000) :
    Calls Tryd.prog 15 #[.slice A n c] w fun e w' => e = .returned (.string (str (textL l))) ∧ Below w.heap.size w w' := by
  have hn := hr.len
  subst hn
  have hcap := hr.cap
  have hmx := hr.max
  unfold maxLen at hmx
  go_enter Tryd.func15, Tryd.ntmps15
  go_wp2_with fail
  go_loopw [8] (fun i wr => ∃ j : Nat, i = .int .i64 (j : Int) ∧ j ≤ l.length ∧ Lib.IsBuilderF 43 5 w.heap.size w.heap.size (Lib.byteCells (textL (l.take j))) wr ∧ Below w.heap.size w wr) (fun i _ => l.length - (intOf i).toNat)
  case atStart => exact ⟨0, rfl, Nat.zero_le _, Lib.IsBuilderF.of (Lib.fresh_isBuilder _ _ w), below_new w _⟩
  case round =>
    obtain ⟨j, rfl, hj, hI, hb⟩ := hrel
    have hbs := hb.size
    by_cases hlt : j < l.length
    · obtain ⟨b, o, t, rfl, _, hu, c0, c1, c2, c3⟩ := (hr.keep hb hB).get hlt
      have hbn := hb.trans ((below_new wr (.cells #[.int .i64 t.kd, .string (str t.tx), .int .i32 t.nv, .int .i64 t.pl] 26)).mono hbs)
      have hIn := hI.alloc (.cells #[.int .i64 t.kd, .string (str t.tx), .int .i32 t.nv, .int .i64 t.pl] 26)
      have bT := Blk.new wr 26 [.int .i64 t.kd, .string (str t.tx), .int .i32 t.nv, .int .i64 t.pl]
      have hne : wr.heap.size ≠ w.heap.size := by
        rcases hI with h | h
        · have := h.lt; omega
        · have := h.lt; omega
      by_cases h0 : 0 < j
      · have HS := hide (text_step hu h0)
        have hl1 := HS.out.2.1
        have hl2 := HS.out.2.2
        clear hu hI
        go_wp2_with fail
        generalize wr.alloc (.cells #[.int .i64 t.kd, .string (str t.tx), .int .i32 t.nv, .int .i64 t.pl] 26) = w3 at hbn hIn bT ⊢
        generalize wr.heap.size = g3 at bT hne hbs ⊢
        refine (bWriteByte w.heap.size w.heap.size _ 32 w3 hIn (by rw [Lib.byteCells_length]; omega) hbn.size).mono ?_
        rintro e w4 ⟨rfl, h4, b4, k4⟩
        have bT4 := bT.others k4 hne
        have hb4 := hbn.trans b4
        have cT := bT4.cell (j := 1) rfl
        rw [cells_sp, ← Lib.byteCells_append] at h4
        clear bT hIn hbn k4 c0 c1 c2 c3
        go_wp2_with fail
        refine (bWriteString w.heap.size w.heap.size _ _ w4 (Or.inr h4) (by rw [Lib.byteCells_length, str_size, List.length_append, List.length_singleton]; omega) hb4.size).mono ?_
        rintro e w5 ⟨rfl, h5, b5, k5⟩
        rw [cells_str, ← Lib.byteCells_append, ← HS.out.1] at h5
        go_wp2_with fail
        go_roundw
        case rel => exact ⟨j + 1, by go_num, by omega, Or.inr h5, hb4.trans b5⟩
        case measure => simp [intOf]; omega
      · obtain rfl : j = 0 := by omega
        have HS := hide (text_first hu)
        rw [Nat.zero_mul, Nat.add_zero] at c0 c1 c2 c3
        have hl2 := HS.out.2
        clear hu hI
        go_wp2_with fail
        generalize wr.alloc (.cells #[.int .i64 t.kd, .string (str t.tx), .int .i32 t.nv, .int .i64 t.pl] 26) = w3 at hbn hIn bT ⊢
        generalize wr.heap.size = g3 at bT hne hbs ⊢
        refine (bWriteString w.heap.size w.heap.size (Lib.byteCells (textL (l.take 0))) (str t.tx) w3 hIn (by rw [Lib.byteCells_length, str_size, List.take_zero]; show 0 + _ ≤ _; omega) hbn.size).mono ?_
        rintro e w5 ⟨rfl, h5, b5, k5⟩
        rw [cells_str, ← Lib.byteCells_append, List.take_zero, show textL [] ++ t.tx = textL (l.take (0 + 1)) from HS.out.1.symm] at h5
        go_wp2_with fail
        go_roundw
        case rel => exact ⟨1, rfl, by omega, Or.inr h5, hbn.trans b5⟩
        case measure => simp [intOf]; omega
    · obtain rfl : j = l.length := by omega
      rw [List.take_length] at hI
      go_wp2_with fail
      refine (bString w.heap.size w.heap.size _ wr hI hbs).mono ?_
      rintro e w2 ⟨rfl, _, b2, _⟩
      go_wp2
      go_ret
      exact ⟨rfl, hb.trans b2⟩
end Go.Proofs.YtbcgofmhplgfbaaDoor
