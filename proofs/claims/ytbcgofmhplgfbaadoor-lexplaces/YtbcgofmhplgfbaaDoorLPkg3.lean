/-
  Contracts of package lex: Name; what is skipped; the token with which a text begins.
-/
import Derived.Test.YtbcgofmhplgfbaaDoorLPkg2
namespace Go.Proofs.YtbcgofmhplgfbaaDoor
open Go.RowKit
set_option maxHeartbeats 1000000

theorem ret_n {k : IntKind} {a b : Int} (h : a = b) : Ending.returned (.int k a) = .returned (.int k b) := by rw [h]
theorem run_le (p : UInt8 → Bool) (s : ByteArray) : runL p s.data.toList ≤ s.size := by have := runL_le p s.data.toList; rwa [size_list] at this
def TellsB (w : World) (b : Bool) (e : Ending) (w' : World) : Prop := e = .returned (.bool b) ∧ Below w.heap.size w w'
theorem Name_any (s : ByteArray) (hs : s.size ≤ maxLen) (w : World) : Calls Tryd.prog 10 #[.string s] w (TellsB w (isName s.data.toList)) := by
  unfold maxLen at hs
  have hsz := size_list s
  by_cases h1 : s.size ≤ 16
  · by_cases h2 : 0 < runL isLet s.data.toList
    · by_cases h3 : runL inW s.data.toList = s.size
      · rcases h4 : isWord s.data.toList
        · have E : Hid (isName s.data.toList = true) := hide (by unfold isName; rw [hsz, h4]; simp [h1, h2, h3])
          have H4 := hide h4
          have d3 : ((runL inW s.data.toList : Int) == (s.size : Int)) = true := by simp [h3]
          have d3' : (runL inW s.data.toList == s.size) = true := by simp [h3]
          clear h3 h4 hsz
          go_enter Tryd.func10, Tryd.ntmps10
          go_wp2_with fail
          refine (run_let s w).mono ?_
          rintro e w1 ⟨rfl, b1⟩
          go_wp2_with fail
          refine (run_inW s w1).mono ?_
          rintro e w2 ⟨rfl, b2⟩
          go_wp2_with fail
          refine (Word_any s w2).mono ?_
          rw [H4.out]
          rintro e w3 ⟨rfl, rfl⟩
          go_wp2
          go_ret
          exact ⟨ret_b E.out.symm, b1.trans (b2.mono b1.size)⟩
        · have E : Hid (isName s.data.toList = false) := hide (by unfold isName; rw [h4]; simp)
          have H4 := hide h4
          have d3 : ((runL inW s.data.toList : Int) == (s.size : Int)) = true := by simp [h3]
          have d3' : (runL inW s.data.toList == s.size) = true := by simp [h3]
          clear h3 h4 hsz
          go_enter Tryd.func10, Tryd.ntmps10
          go_wp2_with fail
          refine (run_let s w).mono ?_
          rintro e w1 ⟨rfl, b1⟩
          go_wp2_with fail
          refine (run_inW s w1).mono ?_
          rintro e w2 ⟨rfl, b2⟩
          go_wp2_with fail
          refine (Word_any s w2).mono ?_
          rw [H4.out]
          rintro e w3 ⟨rfl, rfl⟩
          go_wp2
          go_ret
          exact ⟨ret_b E.out.symm, b1.trans (b2.mono b1.size)⟩
      · have E : Hid (isName s.data.toList = false) := hide (by unfold isName; rw [hsz]; simp [h3])
        have d3 : ((runL inW s.data.toList : Int) == (s.size : Int)) = false := by simp; omega
        have d3' : (runL inW s.data.toList == s.size) = false := by simp [h3]
        clear h3 hsz
        go_enter Tryd.func10, Tryd.ntmps10
        go_wp2_with fail
        refine (run_let s w).mono ?_
        rintro e w1 ⟨rfl, b1⟩
        go_wp2_with fail
        refine (run_inW s w1).mono ?_
        rintro e w2 ⟨rfl, b2⟩
        go_wp2
        go_ret
        exact ⟨ret_b E.out.symm, b1.trans (b2.mono b1.size)⟩
    · have E : Hid (isName s.data.toList = false) := hide (by unfold isName; simp [h2])
      clear hsz
      go_enter Tryd.func10, Tryd.ntmps10
      go_wp2_with fail
      refine (run_let s w).mono ?_
      rintro e w1 ⟨rfl, b1⟩
      go_wp2
      go_ret
      exact ⟨ret_b E.out.symm, b1⟩
  · have E : Hid (isName s.data.toList = false) := hide (by unfold isName; rw [hsz]; simp [h1])
    clear hsz
    go_enter Tryd.func10, Tryd.ntmps10
    go_wp2
    go_ret
    exact ⟨ret_b E.out.symm, Below.refl _ _⟩
theorem tail_list (s : ByteArray) (i : Nat) : (s.extract i s.size).data.toList = s.data.toList.drop i := by
  rw [ext_list, List.take_of_length_le]
  rw [List.length_drop, size_list]; omega
theorem pre_list (l : List UInt8) : Lib.hasPrefix l [45, 45] = decide (l.take 2 = [45, 45]) := by
  match l with
  | [] => rfl
  | [a] => simp [Lib.hasPrefix, List.isPrefixOf]
  | a :: b :: r =>
    show (45 == a && (45 == b && true)) = decide ([a, b] = [45, 45])
    rw [Bool.eq_iff_iff]
    simp only [Bool.and_true, Bool.and_eq_true, beq_iff_eq, decide_eq_true_eq, List.cons.injEq, and_true]
    exact ⟨fun h => ⟨h.1.symm, h.2.symm⟩, fun h => ⟨h.1.symm, h.2.symm⟩⟩
theorem pre_tail (s : ByteArray) (i : Nat) : Lib.hasPrefix (s.extract i s.size).data.toList (⟨#[45, 45]⟩ : ByteArray).data.toList = decide ((s.data.toList.drop i).take 2 = [45, 45]) := by
  rw [tail_list]; exact pre_list _
/-- The place up to which all is skipped, while blanks and remarks are passed over. -/
def Skp (s : ByteArray) (at_ : Nat) : Prop := at_ ≤ s.size ∧ skipN false s.data.toList = at_ + skipN false (s.data.toList.drop at_) ∧ runL isBlk (s.data.toList.drop at_) = 0
theorem run_none (p : UInt8 → Bool) (l : List UInt8) : runL p (l.drop (runL p l)) = 0 := by
  induction l with
  | nil => rfl
  | cons c r ih =>
    rw [runL_cons]
    by_cases h : p c = true
    · rw [if_pos h, Nat.add_comm 1, List.drop_succ_cons]; exact ih
    · rw [if_neg h, List.drop_zero, runL_cons, if_neg h]
theorem skp_start (s : ByteArray) : Skp s (runL isBlk s.data.toList) := ⟨run_le _ s, skip_blank _, run_none _ _⟩
theorem skp_step {s : ByteArray} {at_ : Nat} (h : Skp s at_) (hd : (s.data.toList.drop at_).take 2 = [45, 45]) :
    Skp s (at_ + runL inLin (s.data.toList.drop at_) + runL isBlk (s.data.toList.drop (at_ + runL inLin (s.data.toList.drop at_)))) ∧ 0 < runL inLin (s.data.toList.drop at_) ∧ at_ + runL inLin (s.data.toList.drop at_) ≤ s.size ∧ at_ + runL inLin (s.data.toList.drop at_) + runL isBlk (s.data.toList.drop (at_ + runL inLin (s.data.toList.drop at_))) ≤ s.size := by
  obtain ⟨h1, h2, h3⟩ := h
  have hsz := size_list s
  have l1 := runL_le inLin (s.data.toList.drop at_)
  have l2 := runL_le isBlk (s.data.toList.drop (at_ + runL inLin (s.data.toList.drop at_)))
  rw [List.length_drop] at l1 l2
  refine ⟨⟨by omega, ?_, ?_⟩, ?_, by omega, by omega⟩
  · rw [h2, skip_dash hd, skip_line, List.drop_drop]
    rw [skip_blank (s.data.toList.drop (at_ + runL inLin (s.data.toList.drop at_))), List.drop_drop]
    omega
  · rw [← List.drop_drop]; exact run_none _ _
  · match s.data.toList.drop at_, hd with
    | a :: r, hd =>
      rw [runL_cons]
      cases r with
      | nil => cases hd
      | cons b r => simp at hd; rw [hd.1, if_pos (by decide)]; omega
theorem skp_stop {s : ByteArray} {at_ : Nat} (h : Skp s at_) (hd : (s.data.toList.drop at_).take 2 ≠ [45, 45]) : skipN false s.data.toList = at_ := by
  rw [h.2.1, skip_stop h.2.2 hd]; rfl
theorem skipped_any (s : ByteArray) (hs : s.size ≤ maxLen) (w : World) : Calls Tryd.prog 28 #[.string s] w fun e w' => e = .returned (.int .i64 (skipN false s.data.toList : Nat)) ∧ Below w.heap.size w w' := by
  unfold maxLen at hs
  go_enter Tryd.func28, Tryd.ntmps28
  go_wp2_with fail
  refine (run_blk s w).mono ?_
  rintro e w1 ⟨rfl, b1⟩
  have HS := hide (skp_start s)
  have hle := run_le isBlk s
  go_wp2_with fail
  go_loopw [3] (fun a wr => ∃ j : Nat, a = .int .i64 (j : Int) ∧ Hid (Skp s j) ∧ Below w.heap.size w wr ∧ j ≤ s.size) (fun a _ => s.size - (intOf a).toNat)
  case atStart => exact ⟨_, rfl, HS, b1, hle⟩
  case round =>
    obtain ⟨j, rfl, HJ, hb, hj⟩ := hrel
    by_cases hd : (s.data.toList.drop j).take 2 = [45, 45]
    · have st := skp_step HJ.out hd
      have HP : Hid (Lib.hasPrefix (s.extract j s.size).data.toList (⟨#[45, 45]⟩ : ByteArray).data.toList = true) := hide (by rw [pre_tail]; simpa using hd)
      have HT := hide (tail_list s j)
      obtain ⟨HK, p1, p2, p3⟩ := (⟨hide st.1, st.2⟩ : Hid _ ∧ _)
      clear st hd
      go_wp2_with fail
      refine (Tryd.strings_HasPrefix _ _ wr).mono ?_
      rw [HP.out]
      rintro e w2 ⟨rfl, rfl⟩
      go_wp2_with fail
      refine (run_lin _ _).mono ?_
      rw [tail_list]
      rintro e w3 ⟨rfl, b3⟩
      go_wp2_with fail
      refine (run_blk _ _).mono ?_
      rw [tail_list]
      rintro e w4 ⟨rfl, b4⟩
      have hb4 := hb.trans ((b3.trans (b4.mono b3.size)).mono hb.size)
      go_wp2_with fail
      go_roundw
      case rel => exact ⟨_, by go_num, HK, hb4, p3⟩
      case measure => simp [intOf]; omega
    · have HP : Hid (Lib.hasPrefix (s.extract j s.size).data.toList (⟨#[45, 45]⟩ : ByteArray).data.toList = false) := hide (by rw [pre_tail]; simpa using hd)
      have E := hide (skp_stop HJ.out hd)
      clear hd
      go_wp2_with fail
      refine (Tryd.strings_HasPrefix _ _ wr).mono ?_
      rw [HP.out]
      rintro e w2 ⟨rfl, rfl⟩
      go_wp2_with fail
      go_ret
      rw [E.out]
      exact ⟨rfl, hb⟩
end Go.Proofs.YtbcgofmhplgfbaaDoor
