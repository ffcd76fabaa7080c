/-
  The statement CrcSeals: the call returns true and changes nothing that was there.
-/
import Derived.Test.YtkabmpiofpgoaaaKSums
import Derived.Deep.RegionHeld3
namespace Go.Proofs.Ytkabmpiofpgoaaa
open Go.RowKit
set_option maxHeartbeats 6000000

theorem own_drew {w : World} {base : Nat} {e : TypeId} {v : Value} {n : Nat} {xs : List Value} (h : w.ownsRow base e 1 v n xs) : w.drew.ownsRow base e 1 v n xs := h
theorem seals_walk (A : Option Addr) (n c : Nat) (l : List UInt8) (w : World) (hr : Row w w.heap.size A n c (cs8 l)) :
    Calls Try.prog 4 #[.slice A n c] w fun e w' => e = .returned (.bool true) ∧ Below w.heap.size w w' := by
  by_cases hbig : 65536 < n
  · have hd : decide ((65536 : Int) < (n : Int)) = true := by simp; omega
    go_enter Try.func4, Try.ntmps4
    go_wp2_with (go_at_call 9; refine (known_any _).mono ?_; rintro e w1 ⟨rfl, hb1⟩)
    go_ret
    exact ⟨rfl, hb1⟩
  · have hl : l.length ≤ 65536 := by have := hr.len; rw [cs8_len] at this; omega
    go_enter Try.func4, Try.ntmps4
    go_wp2_with fail
    refine (Lent_any w.heap.size A n c l w hr (by omega)).mono ?_
    rintro e w1 ⟨g, c1, rfl, ho1, hb1⟩
    have hs1 := hb1.size
    have hk1 := Row.of_own ho1
    go_wp2_with fail
    refine (Seal_any w1.heap.size _ _ _ l w1 hk1.lent (Nat.le_refl _) (by omega)).mono ?_
    rintro e w2 ⟨A2, n2, c2, rfl, ho2, hb2⟩
    have hs2 := hb2.size
    have hk2 := hk1.keep hb2 (Nat.le_refl _)
    have hb02 : Below w.heap.size w w2 := hb1.trans (hb2.mono hs1)
    have hlt2 : ∀ k, (Value.slice A2 n2 c2).ownBlock = some k → k < w2.heap.size := fun k hk => (ho2.lt k hk).2
    have hn2 : n2 ≤ 1099511627776 := by have h1 := own8_len ho2; rw [sealL_len] at h1; omega
    go_wp2_with fail
    refine (Open_any w1.heap.size _ _ _ l w2 hk2.lent hs2 (by omega)).mono ?_
    rintro e w3 ⟨A3, n3, c3, rfl, ho3, hb3⟩
    have hs3 := hb3.size
    have hk3 := hk2.keep hb3 hs2
    have hb03 : Below w.heap.size w w3 := hb02.trans (hb3.mono (by omega))
    have hn3 : n3 ≤ 1099511627776 := by have h1 := own8_len ho3; have h2 := opL_len l; omega
    replace ho2 := own_keep ho2 hb3
    go_wp2_with fail
    refine (rOpen_any w.heap.size _ _ _ l w3 (hr.keep hb03 (Nat.le_refl _)) (by omega) (by omega)).mono ?_
    rintro e w4 ⟨A4, n4, c4, rfl, ho4, hb4⟩
    have hs4 := hb4.size
    have hk4 := hk3.keep hb4 (by omega)
    have hb04 : Below w.heap.size w w4 := hb03.trans (hb4.mono (by omega))
    replace ho2 := own_keep ho2 hb4
    replace ho3 := own_keep ho3 hb4
    have hr4 := hr.keep hb04 (Nat.le_refl _)
    have p2 := (Row.of_own ho2).of_drew.str8
    have HA : Hid (w4.ownsRow w1.heap.size 5 1 (.slice A2 n2 c2) n2 (cs8 (sealL l)) ∧ w4.ownsRow w2.heap.size 5 1 (.slice A3 n3 c3) n3 (cs8 (opL l)) ∧ w4.ownsRow w3.heap.size 5 1 (.slice A4 n4 c4) n4 (cs8 (opL l))) := ⟨ho2, ho3, ho4⟩
    have HR := hide hr4
    have HL := hide (show w.heap.size ≤ w4.heap.size ∧ n ≤ 1099511627776 by omega)
    have HB := hide (And.intro hk4 hb04)
    have HS := hide (And.intro hs1 (And.intro hs2 (And.intro hs3 (And.intro hs4 (And.intro hn2 (And.intro hn3 hlt2))))))
    have HW := hide hr
    clear hr ho1 hb1 hs1 hk1 hb2 hs2 hk2 hb02 hlt2 hn2 hb3 hs3 hk3 hb03 hn3 ho2 ho3 ho4 hb4 hs4 hk4 hb04 hr4 hl
    go_wp2_with fail
    go_region_with (first
      | (go_at_call 19; refine (rSeal_any w.heap.size _ _ _ l _ HR.out.of_drew HL.out.1 HL.out.2).mono ?_; rintro e w5 ⟨A5, n5, c5, rfl, ho5, hb5⟩; have q2 := ((Row.of_own HA.out.1).of_drew.keep hb5 (Nat.le_refl _)).str8; have q3 := ((Row.of_own HA.out.2.1).of_drew.keep hb5 (Nat.le_refl _)).str8; have q4 := ((Row.of_own HA.out.2.2).of_drew.keep hb5 (Nat.le_refl _)).str8; have q5 := (Row.of_own ho5).str8; have HO := hide (And.intro ho5 hb5); clear ho5 hb5))
    all_goals
      obtain ⟨hs1, hs2, hs3, hs4, hn2, hn3, hlt2⟩ := HS.out
      have hs5 : w4.heap.size ≤ w5.heap.size := HO.out.2.size
      have hb45 : Below w4.heap.size w4 w5 := (Below.refl _ w4).drew.trans HO.out.2
      have hb05 : Below w.heap.size w w5 := HB.out.2.trans (hb45.mono (by omega))
      have hk5 := HB.out.1.keep hb45 (by omega)
      have ho2 := own_keep HA.out.1 hb45
      have ho3 := own_keep HA.out.2.1 hb45
      clear p2 q2 q3 q4 q5
      go_wp2_with fail
      refine (Spoil_any _ _ _ _ _ _ ho2 (by omega) hn2).mono ?_
      rintro e w6 ⟨rfl, hg6⟩
      have hb6 := grown_below hg6 ho2 (by omega)
      have hs6 := hb6.size
      have ho3 := own_apart ho3 hg6 hlt2 (Nat.le_refl _)
      go_wp2_with fail
      refine (Spoil_any _ _ _ _ _ _ ho3 (by omega) hn3).mono ?_
      rintro e w7 ⟨rfl, hg7⟩
      have hb7 := grown_below hg7 ho3 (by omega)
      have hs7 := hb7.size
      have hb07 : Below w.heap.size w w7 := (hb05.trans (hb6.mono (by omega))).trans (hb7.mono (by omega))
      have hk7 := (hk5.keep hb6 (Nat.le_refl _)).keep hb7 hs2
      have hr7 := HW.out.keep hb07 (Nat.le_refl _)
      go_wp2_with (first
        | (go_at_call 15; refine (Kept_any w.heap.size w1.heap.size _ _ _ _ _ l _ hk7 hr7 (by omega)).mono ?_; rintro e w' ⟨rfl, rfl⟩)
        | (go_at_call 9; refine (known_any _).mono ?_; rintro e w8 ⟨rfl, hb8⟩))
      go_ret
      exact ⟨rfl, hb07.trans (hb8.mono (by omega))⟩
end Go.Proofs.Ytkabmpiofpgoaaa
