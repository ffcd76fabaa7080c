/-
  Contracts of package lex: Word and Mark: chains of comparisons, one case a word (printed by tools/lwords.py).
-/
import Derived.Test.YtbcgofmhplgfbaaDoorLRun
namespace Go.Proofs.YtbcgofmhplgfbaaDoor
open Go.RowKit
set_option maxHeartbeats 1000000

theorem list_eq (s : ByteArray) : s.toList = s.data.toList := ByteArray.toList_eq s
theorem Word_any (s : ByteArray) (w : World) : Calls Tryd.prog 9 #[.string s] w fun e w' => e = .returned (.bool (isWord s.data.toList)) ∧ w = w' := by
  rw [← list_eq]
  rcases h0 : (s.toList == [110, 111, 100, 101]) with _ | _
  rotate_left
  · have e : isWord s.toList = true := by rw [eq_of_beq h0]; decide
    have E := hide e
    clear e
    go_enter Tryd.func9, Tryd.ntmps9
    go_wp2
    go_ret
    exact ⟨ret_b E.out.symm, rfl⟩
  rcases h1 : (s.toList == [114, 101, 116, 117, 114, 110, 115]) with _ | _
  rotate_left
  · have e : isWord s.toList = true := by rw [eq_of_beq h1]; decide
    have E := hide e
    clear e
    go_enter Tryd.func9, Tryd.ntmps9
    go_wp2
    go_ret
    exact ⟨ret_b E.out.symm, rfl⟩
  rcases h2 : (s.toList == [118, 97, 114]) with _ | _
  rotate_left
  · have e : isWord s.toList = true := by rw [eq_of_beq h2]; decide
    have E := hide e
    clear e
    go_enter Tryd.func9, Tryd.ntmps9
    go_wp2
    go_ret
    exact ⟨ret_b E.out.symm, rfl⟩
  rcases h3 : (s.toList == [108, 101, 116]) with _ | _
  rotate_left
  · have e : isWord s.toList = true := by rw [eq_of_beq h3]; decide
    have E := hide e
    clear e
    go_enter Tryd.func9, Tryd.ntmps9
    go_wp2
    go_ret
    exact ⟨ret_b E.out.symm, rfl⟩
  rcases h4 : (s.toList == [116, 101, 108]) with _ | _
  rotate_left
  · have e : isWord s.toList = true := by rw [eq_of_beq h4]; decide
    have E := hide e
    clear e
    go_enter Tryd.func9, Tryd.ntmps9
    go_wp2
    go_ret
    exact ⟨ret_b E.out.symm, rfl⟩
  rcases h5 : (s.toList == [105, 102]) with _ | _
  rotate_left
  · have e : isWord s.toList = true := by rw [eq_of_beq h5]; decide
    have E := hide e
    clear e
    go_enter Tryd.func9, Tryd.ntmps9
    go_wp2
    go_ret
    exact ⟨ret_b E.out.symm, rfl⟩
  rcases h6 : (s.toList == [116, 104, 101, 110]) with _ | _
  rotate_left
  · have e : isWord s.toList = true := by rw [eq_of_beq h6]; decide
    have E := hide e
    clear e
    go_enter Tryd.func9, Tryd.ntmps9
    go_wp2
    go_ret
    exact ⟨ret_b E.out.symm, rfl⟩
  rcases h7 : (s.toList == [101, 108, 115, 101]) with _ | _
  rotate_left
  · have e : isWord s.toList = true := by rw [eq_of_beq h7]; decide
    have E := hide e
    clear e
    go_enter Tryd.func9, Tryd.ntmps9
    go_wp2
    go_ret
    exact ⟨ret_b E.out.symm, rfl⟩
  rcases h8 : (s.toList == [102, 98, 121]) with _ | _
  rotate_left
  · have e : isWord s.toList = true := by rw [eq_of_beq h8]; decide
    have E := hide e
    clear e
    go_enter Tryd.func9, Tryd.ntmps9
    go_wp2
    go_ret
    exact ⟨ret_b E.out.symm, rfl⟩
  rcases h9 : (s.toList == [112, 114, 101]) with _ | _
  rotate_left
  · have e : isWord s.toList = true := by rw [eq_of_beq h9]; decide
    have E := hide e
    clear e
    go_enter Tryd.func9, Tryd.ntmps9
    go_wp2
    go_ret
    exact ⟨ret_b E.out.symm, rfl⟩
  rcases h10 : (s.toList == [119, 104, 101, 110]) with _ | _
  rotate_left
  · have e : isWord s.toList = true := by rw [eq_of_beq h10]; decide
    have E := hide e
    clear e
    go_enter Tryd.func9, Tryd.ntmps9
    go_wp2
    go_ret
    exact ⟨ret_b E.out.symm, rfl⟩
  rcases h11 : (s.toList == [117, 110, 108, 101, 115, 115]) with _ | _
  rotate_left
  · have e : isWord s.toList = true := by rw [eq_of_beq h11]; decide
    have E := hide e
    clear e
    go_enter Tryd.func9, Tryd.ntmps9
    go_wp2
    go_ret
    exact ⟨ret_b E.out.symm, rfl⟩
  rcases h12 : (s.toList == [109, 101, 114, 103, 101]) with _ | _
  rotate_left
  · have e : isWord s.toList = true := by rw [eq_of_beq h12]; decide
    have E := hide e
    clear e
    go_enter Tryd.func9, Tryd.ntmps9
    go_wp2
    go_ret
    exact ⟨ret_b E.out.symm, rfl⟩
  rcases h13 : (s.toList == [110, 111, 116]) with _ | _
  rotate_left
  · have e : isWord s.toList = true := by rw [eq_of_beq h13]; decide
    have E := hide e
    clear e
    go_enter Tryd.func9, Tryd.ntmps9
    go_wp2
    go_ret
    exact ⟨ret_b E.out.symm, rfl⟩
  rcases h14 : (s.toList == [116, 114, 117, 101]) with _ | _
  rotate_left
  · have e : isWord s.toList = true := by rw [eq_of_beq h14]; decide
    have E := hide e
    clear e
    go_enter Tryd.func9, Tryd.ntmps9
    go_wp2
    go_ret
    exact ⟨ret_b E.out.symm, rfl⟩
  rcases h15 : (s.toList == [102, 97, 108, 115, 101]) with _ | _
  rotate_left
  · have e : isWord s.toList = true := by rw [eq_of_beq h15]; decide
    have E := hide e
    clear e
    go_enter Tryd.func9, Tryd.ntmps9
    go_wp2
    go_ret
    exact ⟨ret_b E.out.symm, rfl⟩
  rcases h16 : (s.toList == [105, 110, 116]) with _ | _
  rotate_left
  · have e : isWord s.toList = true := by rw [eq_of_beq h16]; decide
    have E := hide e
    clear e
    go_enter Tryd.func9, Tryd.ntmps9
    go_wp2
    go_ret
    exact ⟨ret_b E.out.symm, rfl⟩
  rcases h17 : (s.toList == [98, 111, 111, 108]) with _ | _
  rotate_left
  · have e : isWord s.toList = true := by rw [eq_of_beq h17]; decide
    have E := hide e
    clear e
    go_enter Tryd.func9, Tryd.ntmps9
    go_wp2
    go_ret
    exact ⟨ret_b E.out.symm, rfl⟩
  have e : isWord s.toList = false := by simp only [isWord, wordL, List.contains_cons, List.contains_nil, Bool.or_false, h0, h1, h2, h3, h4, h5, h6, h7, h8, h9, h10, h11, h12, h13, h14, h15, h16, h17]
  have E := hide e
  clear e
  go_enter Tryd.func9, Tryd.ntmps9
  go_wp2
  go_ret
  exact ⟨ret_b E.out.symm, rfl⟩
theorem Mark_any (s : ByteArray) (w : World) : Calls Tryd.prog 11 #[.string s] w fun e w' => e = .returned (.bool (isMark s.data.toList)) ∧ w = w' := by
  rw [← list_eq]
  rcases h0 : (s.toList == [60, 60]) with _ | _
  rotate_left
  · have e : isMark s.toList = true := by rw [eq_of_beq h0]; decide
    have E := hide e
    clear e
    go_enter Tryd.func11, Tryd.ntmps11
    go_wp2
    go_ret
    exact ⟨ret_b E.out.symm, rfl⟩
  rcases h1 : (s.toList == [62, 62]) with _ | _
  rotate_left
  · have e : isMark s.toList = true := by rw [eq_of_beq h1]; decide
    have E := hide e
    clear e
    go_enter Tryd.func11, Tryd.ntmps11
    go_wp2
    go_ret
    exact ⟨ret_b E.out.symm, rfl⟩
  rcases h2 : (s.toList == [60, 62]) with _ | _
  rotate_left
  · have e : isMark s.toList = true := by rw [eq_of_beq h2]; decide
    have E := hide e
    clear e
    go_enter Tryd.func11, Tryd.ntmps11
    go_wp2
    go_ret
    exact ⟨ret_b E.out.symm, rfl⟩
  rcases h3 : (s.toList == [60, 61]) with _ | _
  rotate_left
  · have e : isMark s.toList = true := by rw [eq_of_beq h3]; decide
    have E := hide e
    clear e
    go_enter Tryd.func11, Tryd.ntmps11
    go_wp2
    go_ret
    exact ⟨ret_b E.out.symm, rfl⟩
  rcases h4 : (s.toList == [62, 61]) with _ | _
  rotate_left
  · have e : isMark s.toList = true := by rw [eq_of_beq h4]; decide
    have E := hide e
    clear e
    go_enter Tryd.func11, Tryd.ntmps11
    go_wp2
    go_ret
    exact ⟨ret_b E.out.symm, rfl⟩
  rcases h5 : (s.toList == [45, 62]) with _ | _
  rotate_left
  · have e : isMark s.toList = true := by rw [eq_of_beq h5]; decide
    have E := hide e
    clear e
    go_enter Tryd.func11, Tryd.ntmps11
    go_wp2
    go_ret
    exact ⟨ret_b E.out.symm, rfl⟩
  rcases h6 : (s.toList == [40]) with _ | _
  rotate_left
  · have e : isMark s.toList = true := by rw [eq_of_beq h6]; decide
    have E := hide e
    clear e
    go_enter Tryd.func11, Tryd.ntmps11
    go_wp2
    go_ret
    exact ⟨ret_b E.out.symm, rfl⟩
  rcases h7 : (s.toList == [41]) with _ | _
  rotate_left
  · have e : isMark s.toList = true := by rw [eq_of_beq h7]; decide
    have E := hide e
    clear e
    go_enter Tryd.func11, Tryd.ntmps11
    go_wp2
    go_ret
    exact ⟨ret_b E.out.symm, rfl⟩
  rcases h8 : (s.toList == [58]) with _ | _
  rotate_left
  · have e : isMark s.toList = true := by rw [eq_of_beq h8]; decide
    have E := hide e
    clear e
    go_enter Tryd.func11, Tryd.ntmps11
    go_wp2
    go_ret
    exact ⟨ret_b E.out.symm, rfl⟩
  rcases h9 : (s.toList == [44]) with _ | _
  rotate_left
  · have e : isMark s.toList = true := by rw [eq_of_beq h9]; decide
    have E := hide e
    clear e
    go_enter Tryd.func11, Tryd.ntmps11
    go_wp2
    go_ret
    exact ⟨ret_b E.out.symm, rfl⟩
  rcases h10 : (s.toList == [59]) with _ | _
  rotate_left
  · have e : isMark s.toList = true := by rw [eq_of_beq h10]; decide
    have E := hide e
    clear e
    go_enter Tryd.func11, Tryd.ntmps11
    go_wp2
    go_ret
    exact ⟨ret_b E.out.symm, rfl⟩
  rcases h11 : (s.toList == [61]) with _ | _
  rotate_left
  · have e : isMark s.toList = true := by rw [eq_of_beq h11]; decide
    have E := hide e
    clear e
    go_enter Tryd.func11, Tryd.ntmps11
    go_wp2
    go_ret
    exact ⟨ret_b E.out.symm, rfl⟩
  rcases h12 : (s.toList == [60]) with _ | _
  rotate_left
  · have e : isMark s.toList = true := by rw [eq_of_beq h12]; decide
    have E := hide e
    clear e
    go_enter Tryd.func11, Tryd.ntmps11
    go_wp2
    go_ret
    exact ⟨ret_b E.out.symm, rfl⟩
  rcases h13 : (s.toList == [62]) with _ | _
  rotate_left
  · have e : isMark s.toList = true := by rw [eq_of_beq h13]; decide
    have E := hide e
    clear e
    go_enter Tryd.func11, Tryd.ntmps11
    go_wp2
    go_ret
    exact ⟨ret_b E.out.symm, rfl⟩
  rcases h14 : (s.toList == [43]) with _ | _
  rotate_left
  · have e : isMark s.toList = true := by rw [eq_of_beq h14]; decide
    have E := hide e
    clear e
    go_enter Tryd.func11, Tryd.ntmps11
    go_wp2
    go_ret
    exact ⟨ret_b E.out.symm, rfl⟩
  rcases h15 : (s.toList == [45]) with _ | _
  rotate_left
  · have e : isMark s.toList = true := by rw [eq_of_beq h15]; decide
    have E := hide e
    clear e
    go_enter Tryd.func11, Tryd.ntmps11
    go_wp2
    go_ret
    exact ⟨ret_b E.out.symm, rfl⟩
  rcases h16 : (s.toList == [42]) with _ | _
  rotate_left
  · have e : isMark s.toList = true := by rw [eq_of_beq h16]; decide
    have E := hide e
    clear e
    go_enter Tryd.func11, Tryd.ntmps11
    go_wp2
    go_ret
    exact ⟨ret_b E.out.symm, rfl⟩
  rcases h17 : (s.toList == [47]) with _ | _
  rotate_left
  · have e : isMark s.toList = true := by rw [eq_of_beq h17]; decide
    have E := hide e
    clear e
    go_enter Tryd.func11, Tryd.ntmps11
    go_wp2
    go_ret
    exact ⟨ret_b E.out.symm, rfl⟩
  rcases h18 : (s.toList == [37]) with _ | _
  rotate_left
  · have e : isMark s.toList = true := by rw [eq_of_beq h18]; decide
    have E := hide e
    clear e
    go_enter Tryd.func11, Tryd.ntmps11
    go_wp2
    go_ret
    exact ⟨ret_b E.out.symm, rfl⟩
  rcases h19 : (s.toList == [38]) with _ | _
  rotate_left
  · have e : isMark s.toList = true := by rw [eq_of_beq h19]; decide
    have E := hide e
    clear e
    go_enter Tryd.func11, Tryd.ntmps11
    go_wp2
    go_ret
    exact ⟨ret_b E.out.symm, rfl⟩
  rcases h20 : (s.toList == [124]) with _ | _
  rotate_left
  · have e : isMark s.toList = true := by rw [eq_of_beq h20]; decide
    have E := hide e
    clear e
    go_enter Tryd.func11, Tryd.ntmps11
    go_wp2
    go_ret
    exact ⟨ret_b E.out.symm, rfl⟩
  rcases h21 : (s.toList == [94]) with _ | _
  rotate_left
  · have e : isMark s.toList = true := by rw [eq_of_beq h21]; decide
    have E := hide e
    clear e
    go_enter Tryd.func11, Tryd.ntmps11
    go_wp2
    go_ret
    exact ⟨ret_b E.out.symm, rfl⟩
  have e : isMark s.toList = false := by simp only [isMark, markL, List.contains_cons, List.contains_nil, Bool.or_false, h0, h1, h2, h3, h4, h5, h6, h7, h8, h9, h10, h11, h12, h13, h14, h15, h16, h17, h18, h19, h20, h21]
  have E := hide e
  clear e
  go_enter Tryd.func11, Tryd.ntmps11
  go_wp2
  go_ret
  exact ⟨ret_b E.out.symm, rfl⟩
end Go.Proofs.YtbcgofmhplgfbaaDoor
