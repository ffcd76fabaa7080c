/-
  The statement ShaPads: each call returns true and changes nothing that was there.
-/
import Derived.Test.YtfbboiagfjkgcaaDoorSKnown
import Derived.Test.YtfbboiagfjkgcaaDoorSPad2
namespace Go.Proofs.YtfbboiagfjkgcaaDoor
open Go.RowKit
set_option maxHeartbeats 800000

theorem pdL_len (n : Int) : (pdL n).length ≤ 72 := by
  unfold pdL; split
  · rw [padL_len]; have := padZ_lt n.toNat; omega
  · simp
theorem Row.s8 {w : World} {B n c : Nat} {A : Option Addr} {l : List UInt8} (h : Row w B A n c (cs8 l)) : (convert 24 9 (.slice A n c)).run Tryd.prog w = .ok (.string ⟨l.toArray⟩) w :=
  h.str (P := Tryd.prog) Tryd.underlying24 Tryd.underlying5 Tryd.underlying9
theorem pads_walk (n : Int) (w : World) (_hn : (Lit.int .i64 n).wf = true) (hK : KT w.heap.size w) :
    Calls Tryd.prog 4 #[.int .i64 n] w fun e w' => e = .returned (.bool true) ∧ Below w.heap.size w w' := by
  clear _hn
  go_enter Tryd.func4, Tryd.ntmps4
  go_wp2_with fail
  refine (Pad_any n w).mono ?_
  rintro e w1 ⟨A1, n1, c1, rfl, ho1, hb1⟩
  have hs1 := hb1.size
  go_wp2_with fail
  refine (rPad_any n w1).mono ?_
  rintro e w2 ⟨A2, n2, c2, rfl, ho2, hb2⟩
  have hs12 := hb2.size
  have ho12 := own_keep ho1 hb2
  have hb02 := hb1.trans (hb2.mono hs1)
  have hs2 := hb02.size
  have q1 := (Row.of_own ho12).s8
  have q2 := (Row.of_own ho2).s8
  have hn1 : n1 ≤ 72 := by rw [← own8_len ho1]; exact pdL_len n
  have hlt1 : ∀ k, (Value.slice A1 n1 c1).ownBlock = some k → k < w1.heap.size := fun k hk => (ho1.lt k hk).2
  go_wp2_with fail
  refine (Spoil_any A1 n1 c1 w.heap.size _ w2 ho12 hs2 (by omega)).mono ?_
  rintro e w3 ⟨rfl, hg3⟩
  have hb23 := grown_below hg3 ho12 hs2
  have hb03 := hb02.trans hb23
  have hs3 := hb03.size
  have ho23 := own_apart ho2 hg3 hlt1 (Nat.le_refl _)
  clear q1 q2 hg3 ho12 ho1 ho2 hb23 hb02 hb2 hb1
  go_wp2_with fail
  refine (Pad_any n w3).mono ?_
  rintro e w4 ⟨A4, n4, c4, rfl, ho4, hb4⟩
  have ho24 := own_keep ho23 hb4
  have hb04 := hb03.trans (hb4.mono hs3)
  have hs4 := hb04.size
  have q4 := (Row.of_own ho4).s8
  have q2 := (Row.of_own ho24).s8
  clear ho23 hb03 hb4
  go_wp2_with (go_at_call 9; refine (known_any _ _ hs4 (hK.keep hb04 (Nat.le_refl _))).mono ?_; rintro e w5 ⟨rfl, hb5⟩)
  go_ret
  exact ⟨rfl, hb04.trans (hb5.mono hs4)⟩
end Go.Proofs.YtfbboiagfjkgcaaDoor
