/-
  The statements CrcSums and CrcStarts: each call returns true and changes nothing that was there.
-/
import Derived.Test.YtkabmpiofpgoaaaKKnown
namespace Go.Proofs.Ytkabmpiofpgoaaa
open Go.RowKit
set_option maxHeartbeats 400000

theorem lit_u32 {a : Int} (h : (Lit.int .u32 a).wf = true) : ∃ k : Nat, a = (k : Int) ∧ k ≤ 4294967295 := by
  have h1 : 0 ≤ a ∧ a ≤ 4294967295 := by simpa [Lit.wf, IntKind.min, IntKind.max, IntKind.signed, IntKind.bits] using h
  exact ⟨a.toNat, by omega, by omega⟩
theorem Row.lent {w : World} {B g n c : Nat} {l : List UInt8} (hk : Row w B (some ⟨g, 0, none⟩) (n + 1) c (cs8 (l ++ [77]))) : Row w B (some ⟨g, 0, none⟩) n c (cs8 l) := by
  have hn : l.length = n := by have := hk.len; rw [cs8_len] at this; simpa using this
  have hp := hk.pre (b := n) (by omega)
  rwa [cs8_snoc, List.take_left' (by rw [cs8_len]; exact hn)] at hp
theorem sums_walk (s : Int) (A : Option Addr) (n c : Nat) (l : List UInt8) (w : World) (hs0 : (Lit.int .u32 s).wf = true) (hr : Row w w.heap.size A n c (cs8 l)) :
    Calls Try.prog 3 #[.int .u32 s, .slice A n c] w fun e w' => e = .returned (.bool true) ∧ Below w.heap.size w w' := by
  obtain ⟨s, rfl, hs⟩ := lit_u32 hs0
  clear hs0
  by_cases hbig : 65536 < n
  · have hd : decide ((65536 : Int) < (n : Int)) = true := by simp; omega
    go_enter Try.func3, Try.ntmps3
    go_wp2_with (go_at_call 9; refine (known_any _).mono ?_; rintro e w1 ⟨rfl, hb1⟩)
    go_ret
    exact ⟨rfl, hb1⟩
  · go_enter Try.func3, Try.ntmps3
    go_wp2_with fail
    refine (Lent_any w.heap.size A n c l w hr (by omega)).mono ?_
    rintro e w1 ⟨g, c1, rfl, ho1, hb1⟩
    have hs1 := hb1.size
    have hk1 := Row.of_own ho1
    have hr1 := hr.keep hb1 (Nat.le_refl _)
    go_wp2_with fail
    refine (On_any w1.heap.size s _ _ _ l w1 hk1.lent (Nat.le_refl _) hs).mono ?_
    rintro e w2 ⟨rfl, hb2⟩
    have hs2 := hb2.size
    have hk2 := hk1.keep hb2 (Nat.le_refl _)
    have hr2 := hr1.keep hb2 hs1
    go_wp2_with fail
    refine (rOn_any w.heap.size s _ _ _ l w2 hr2 hs).mono ?_
    rintro e w' ⟨rfl, rfl⟩
    go_wp2_with fail
    refine (Sum_any w1.heap.size _ _ _ l w2 hk2.lent (by omega)).mono ?_
    rintro e w3 ⟨rfl, hb3⟩
    have hs3 := hb3.size
    have hk3 := hk2.keep hb3 hs2
    have hr3 := hr2.keep hb3 (by omega)
    go_wp2_with (first
      | (go_at_call 14; refine (rSum_any w.heap.size _ _ _ l _ hr3).mono ?_; rintro e w' ⟨rfl, rfl⟩)
      | (go_at_call 15; refine (Kept_any w.heap.size w1.heap.size _ _ _ _ _ l _ hk3 hr3 (by omega)).mono ?_; rintro e w' ⟨rfl, rfl⟩)
      | (go_at_call 9; refine (known_any _).mono ?_; rintro e w5 ⟨rfl, hb5⟩))
    go_ret
    exact ⟨rfl, ((hb1.trans (hb2.mono hs1)).trans (hb3.mono (by omega))).trans (hb5.mono (by omega))⟩
theorem on_same {x y : Nat} (l : List UInt8) (hx : x ≤ 4294967295) (hy : y ≤ 4294967295) : ((crcOn x l : Int) == (crcOn y l : Int)) = ((x : Int) == (y : Int)) := by
  rw [Bool.eq_iff_iff, beq_iff_eq, beq_iff_eq]
  constructor
  · intro h
    rw [crcOn_inj l (by omega) (by omega) (show crcOn x l = crcOn y l by omega)]
  · intro h
    rw [show x = y by omega]
theorem starts_walk (x y : Int) (A : Option Addr) (n c : Nat) (l : List UInt8) (w : World) (hx0 : (Lit.int .u32 x).wf = true) (hy0 : (Lit.int .u32 y).wf = true) (hr : Row w w.heap.size A n c (cs8 l)) :
    Calls Try.prog 8 #[.int .u32 x, .int .u32 y, .slice A n c] w fun e w' => e = .returned (.bool true) ∧ Below w.heap.size w w' := by
  obtain ⟨x, rfl, hx⟩ := lit_u32 hx0
  obtain ⟨y, rfl, hy⟩ := lit_u32 hy0
  clear hx0 hy0
  by_cases hbig : 65536 < n
  · have hd : decide ((65536 : Int) < (n : Int)) = true := by simp; omega
    go_enter Try.func8, Try.ntmps8
    go_wp2_with (go_at_call 9; refine (known_any _).mono ?_; rintro e w1 ⟨rfl, hb1⟩)
    go_ret
    exact ⟨rfl, hb1⟩
  · have he := on_same l hx hy
    go_enter Try.func8, Try.ntmps8
    go_wp2_with fail
    refine (On_any w.heap.size x _ _ _ l w hr (Nat.le_refl _) hx).mono ?_
    rintro e w1 ⟨rfl, hb1⟩
    have hs1 := hb1.size
    go_wp2_with fail
    refine (On_any w.heap.size y _ _ _ l w1 (hr.keep hb1 (Nat.le_refl _)) hs1 hy).mono ?_
    rintro e w2 ⟨rfl, hb2⟩
    have hs2 := hb2.size
    go_wp2_with (go_at_call 9; refine (known_any _).mono ?_; rintro e w5 ⟨rfl, hb5⟩)
    go_ret
    exact ⟨rfl, (hb1.trans (hb2.mono hs1)).trans (hb5.mono (by omega))⟩
end Go.Proofs.Ytkabmpiofpgoaaa
