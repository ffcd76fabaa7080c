/-
  Contracts of package vm: unary, binary, step.
-/
import Derived.Test.YtmjelcoljmefeaaVPkg
import Derived.Test.YtmjelcoljmefeaaWBin
import Derived.StillTailTactics
namespace Go.Proofs.Ytmjelcoljmefeaa
open Go.RowKit
set_option maxRecDepth 20000
set_option maxHeartbeats 2000000

section
variable {B : Nat} {P : MP} {l : List (Int × Int)} {old ins : List Int} {tA : Option Addr} {tn tc : Nat} {s : VS} {u : Nat}
theorem unary_bad (w : World) (op : Int) (h : Mac w B P l old ins tA tn tc s u) (hn : s.st.length = 0) :
    Calls Try.prog 53 #[.pointer (some ⟨P.g, 0, none⟩), .int .i64 op] w (Fails B 12 w) := by
  go_enter Try.func53, Try.ntmps53
  go_wp2_with fail
  refine (pop_bad w h hn).mono ?_
  rintro e w1 ⟨rfl, hb⟩
  exact post_raise rfl ⟨rfl, hb⟩
theorem unary_ok (w : World) (op : Int) (h : Mac w B P l old ins tA tn tc s u) (m : Nat) (hn : s.st.length = m + 1) (hm : m ≤ 15) :
    Calls Try.prog 53 #[.pointer (some ⟨P.g, 0, none⟩), .int .i64 op] w (Goes B P l old ins ⟨s.p, s.st.take m ++ [unV op (gd s.st m)], s.sl, s.ce, s.ou⟩ u w) := by
  have HL := hide (show (s.st.take m).length < 16 by simp; omega)
  go_enter Try.func53, Try.ntmps53
  go_wp2_with fail
  refine (pop_ok w h m hn hm).mono ?_
  rintro e w1 ⟨rfl, ⟨tA', tc', h1, -⟩, hb⟩
  clear h hn
  go_wp2_with fail
  refine (Un_any _ _ _).mono ?_
  rintro e w2 ⟨rfl, rfl⟩
  go_wp2_with fail
  refine (push_ok w1 _ h1 HL.out).mono ?_
  rintro e w2 ⟨rfl, hg, hb2⟩
  have HH := hide (And.intro hg (hb.trans hb2))
  clear hg hb hb2 h1
  go_wp2
  go_end0
  exact ⟨rfl, HH.out.1, HH.out.2⟩
theorem binary_bad0 (w : World) (op : Int) (h : Mac w B P l old ins tA tn tc s u) (hn : s.st.length = 0) :
    Calls Try.prog 54 #[.pointer (some ⟨P.g, 0, none⟩), .int .i64 op] w (Fails B 12 w) := by
  go_enter Try.func54, Try.ntmps54
  go_wp2_with fail
  refine (pop_bad w h hn).mono ?_
  rintro e w1 ⟨rfl, hb⟩
  exact post_raise rfl ⟨rfl, hb⟩
theorem binary_bad1 (w : World) (op : Int) (h : Mac w B P l old ins tA tn tc s u) (hn : s.st.length = 1) :
    Calls Try.prog 54 #[.pointer (some ⟨P.g, 0, none⟩), .int .i64 op] w (Fails B 12 w) := by
  go_enter Try.func54, Try.ntmps54
  go_wp2_with fail
  refine (pop_ok w h 0 hn (by omega)).mono ?_
  rintro e w1 ⟨rfl, ⟨tA', tc', h1, -⟩, hb⟩
  clear h hn
  go_wp2_with fail
  refine (pop_bad w1 h1 rfl).mono ?_
  rintro e w2 ⟨rfl, hb2⟩
  exact post_raise rfl ⟨rfl, hb.trans hb2⟩
theorem binary_ok (w : World) (op : Int) (h : Mac w B P l old ins tA tn tc s u) (m : Nat) (hn : s.st.length = m + 2) (hm : m ≤ 14) :
    Calls Try.prog 54 #[.pointer (some ⟨P.g, 0, none⟩), .int .i64 op] w (Goes B P l old ins ⟨s.p, s.st.take m ++ [binV op (gd s.st m) (gd s.st (m + 1))], s.sl, s.ce, s.ou⟩ u w) := by
  have HL := hide (show (s.st.take m).length < 16 by simp; omega)
  have HK := hide (show (s.st.take (m + 1)).length = m + 1 by simp; omega)
  have HT := hide (show (s.st.take (m + 1)).take m = s.st.take m by rw [List.take_take]; congr 1; omega)
  have HV := hide (show gd (s.st.take (m + 1)) m = gd s.st m by unfold gd; rw [List.getD_eq_getElem?_getD, List.getD_eq_getElem?_getD, List.getElem?_take, if_pos (by omega)])
  go_enter Try.func54, Try.ntmps54
  go_wp2_with fail
  refine (pop_ok w h (m + 1) hn (by omega)).mono ?_
  rintro e w1 ⟨rfl, ⟨tA', tc', h1, -⟩, hb⟩
  clear h hn
  go_wp2_with fail
  refine (pop_ok w1 h1 m HK.out (by omega)).mono ?_
  rintro e w2 ⟨rfl, ⟨tA2, tc2, h2, -⟩, hb2⟩
  simp only at h2 ⊢
  rw [HT.out] at h2
  rw [HV.out]
  have hb3 := hb.trans hb2
  clear h1 hb hb2
  go_wp2_with fail
  refine (Bin_any _ _ _ _).mono ?_
  rintro e w3 ⟨rfl, rfl⟩
  go_wp2_with fail
  refine (push_ok w2 _ h2 HL.out).mono ?_
  rintro e w3 ⟨rfl, hg, hb4⟩
  have HH := hide (And.intro hg (hb3.trans hb4))
  clear hg hb3 hb4 h2
  go_wp2
  go_end0
  exact ⟨rfl, HH.out.1, HH.out.2⟩
end
end Go.Proofs.Ytmjelcoljmefeaa
