/-
  The walk of WrapOrders: it returns true, and turns nothing that was there.
-/
import Derived.Test.YtpbjlnlkegefjaaDoorWKnown
import Derived.Test.YtpbjlnlkegefjaaDoorWBv
namespace Go.Proofs.YtpbjlnlkegefjaaDoor
open Go.RowKit
set_option maxHeartbeats 400000
theorem lt1 {a b : Int} (h : a < b) : binV 13 a b = 1 := by show truV _ = _; simp [truV, h]
theorem lt0 {a b : Int} (h : b ≤ a) : binV 13 a b = 0 := by show truV _ = _; simp [truV]; omega
theorem eq1 (a : Int) : binV 11 a a = 1 := by show truV _ = _; simp [truV]
theorem eq0 {a b : Int} (h : a ≠ b) : binV 11 a b = 0 := by show truV _ = _; simp [truV, h]
theorem ne1 {a b : Int} (h : a ≠ b) : binV 12 a b = 1 := by show truV _ = _; simp [truV, h]
theorem ne0 (a : Int) : binV 12 a a = 0 := by show truV _ = _; simp [truV]
theorem le1 {a b : Int} (h : a ≤ b) : binV 14 a b = 1 := by show truV _ = _; simp [truV, h]
theorem le0 {a b : Int} (h : b < a) : binV 14 a b = 0 := by show truV _ = _; simp [truV]; omega
theorem gt1 {a b : Int} (h : b < a) : binV 15 a b = 1 := by show truV _ = _; simp [truV, h]
theorem gt0 {a b : Int} (h : a ≤ b) : binV 15 a b = 0 := by show truV _ = _; simp [truV]; omega
theorem ge1 {a b : Int} (h : b ≤ a) : binV 16 a b = 1 := by show truV _ = _; simp [truV, h]
theorem ge0 {a b : Int} (h : a < b) : binV 16 a b = 0 := by show truV _ = _; simp [truV]; omega
theorem sub0 (a : Int) : binV 2 a a = 0 := by rw [binV2, BitVec.sub_self]; rfl
theorem subN {a b : Int} (ha : (Lit.int .i32 a).wf = true) (hb : (Lit.int .i32 b).wf = true) (h : a ≠ b) : (binV 2 a b == 0) = false := by
  rw [beq_eq_false_iff_ne]
  have h1 := of_wf ha
  have h2 := of_wf hb
  show wrap32 (a - b) ≠ 0
  unfold wrap32
  omega
theorem orders_walk (a b c : Int) (w : World) (ha : (Lit.int .i32 a).wf = true) (hb : (Lit.int .i32 b).wf = true) (_ : (Lit.int .i32 c).wf = true) (ht : Tab w) :
    Calls Tryd.prog 9 #[.int .i32 a, .int .i32 b, .int .i32 c] w fun e w' => e = .returned (.bool true) ∧ Below w.heap.size w w' := by
  by_cases hlt : a < b
  · have e1 := lt1 hlt
    have e2 := eq0 (show a ≠ b by omega)
    have e3 := gt0 (show a ≤ b by omega)
    have e4 := le1 (show a ≤ b by omega)
    have e5 := ge0 hlt
    have e6 := ne1 (show a ≠ b by omega)
    have e7 := lt0 (show a ≤ b by omega)
    have e8 := subN ha hb (by omega)
    by_cases hbc : b < c
    · have e9 := lt1 hbc
      have e10 := lt1 (show a < c by omega)
      clear hlt hbc ha hb
      go_enter Tryd.func9, Tryd.ntmps9
      go_wp2_with (first
        | (go_at_call 24; refine (bin_any _ _ _ _ (by decide) (by decide)).mono ?_; rintro e w' ⟨rfl, rfl⟩)
        | (go_at_call 13; refine (known_any _ ht).mono ?_; rintro e w' ⟨rfl, hb⟩))
      go_ret
      exact ⟨rfl, hb⟩
    · have e9 := lt0 (show c ≤ b by omega)
      clear hlt hbc ha hb
      go_enter Tryd.func9, Tryd.ntmps9
      go_wp2_with (first
        | (go_at_call 24; refine (bin_any _ _ _ _ (by decide) (by decide)).mono ?_; rintro e w' ⟨rfl, rfl⟩)
        | (go_at_call 13; refine (known_any _ ht).mono ?_; rintro e w' ⟨rfl, hb⟩))
      go_ret
      exact ⟨rfl, hb⟩
  by_cases heq : a = b
  · subst heq
    have e1 := lt0 (Int.le_refl a)
    have e2 := eq1 a
    have e3 := gt0 (Int.le_refl a)
    have e4 := le1 (Int.le_refl a)
    have e5 := ge1 (Int.le_refl a)
    have e6 := ne0 a
    have e8 := sub0 a
    clear hlt ha hb
    go_enter Tryd.func9, Tryd.ntmps9
    go_wp2_with (first
      | (go_at_call 24; refine (bin_any _ _ _ _ (by decide) (by decide)).mono ?_; rintro e w' ⟨rfl, rfl⟩)
      | (go_at_call 13; refine (known_any _ ht).mono ?_; rintro e w' ⟨rfl, hb⟩))
    go_ret
    exact ⟨rfl, hb⟩
  · have hgt : b < a := by omega
    have e1 := lt0 (show b ≤ a by omega)
    have e2 := eq0 heq
    have e3 := gt1 hgt
    have e4 := le0 hgt
    have e5 := ge1 (show b ≤ a by omega)
    have e6 := ne1 heq
    have e7 := lt1 hgt
    have e8 := subN ha hb heq
    clear hlt heq hgt ha hb
    go_enter Tryd.func9, Tryd.ntmps9
    go_wp2_with (first
      | (go_at_call 24; refine (bin_any _ _ _ _ (by decide) (by decide)).mono ?_; rintro e w' ⟨rfl, rfl⟩)
      | (go_at_call 13; refine (known_any _ ht).mono ?_; rintro e w' ⟨rfl, hb⟩))
    go_ret
    exact ⟨rfl, hb⟩
end Go.Proofs.YtpbjlnlkegefjaaDoor
