/-
  Contracts of the reference of layer 3 (midstreamref03): Open; and Count of layer 2's.
-/
import Derived.Test.YtkabmpiofpgoaaaKRef
import Derived.Deep.RegionWith
import Derived.BigRegion
namespace Go.Proofs.Ytkabmpiofpgoaaa
open Go.RowKit
set_option maxHeartbeats 800000

theorem Row.of_drew {w : World} {B n c : Nat} {A : Option Addr} {xs : List Value} (h : Row w B A n c xs) : Row w.drew B A n c xs := h.keep (Below.refl B w).drew (Nat.le_refl _)
theorem Row.str8 {w : World} {B n c : Nat} {A : Option Addr} {l : List UInt8} (h : Row w B A n c (cs8 l)) : (convert 23 9 (.slice A n c)).run Try.prog w = .ok (.string ⟨l.toArray⟩) w :=
  h.str (P := Try.prog) Try.underlying23 Try.underlying5 Try.underlying9
theorem rOpen_any (B : Nat) (A : Option Addr) (n c : Nat) (l : List UInt8) (w : World) (hr : Row w B A n c (cs8 l)) (hB : B ≤ w.heap.size) (hl : n ≤ 1099511627776) :
    Calls Try.prog 18 #[.slice A n c] w (Gives w (opL l) (opE l)) := by
  obtain ⟨i0, hi, hz0, hz1, hz2⟩ := info_parts info8
  have hn := hr.len
  rw [cs8_len] at hn
  by_cases h4 : n < 4
  · have HE := hide (opE_short (l := l) (by omega))
    go_enter Try.func18, Try.ntmps18
    go_wp2
    go_ret2
    exact Gives.none_ (opL_bad (by rw [HE.out]; decide)) HE.out
  · obtain ⟨m, rfl⟩ : ∃ m, n = m + 4 := ⟨n - 4, by omega⟩
    obtain ⟨A9, c9, hsl, hr9⟩ := hr.headed Try.underlying23 size8 (hi := m) (by omega) (m : Int) rfl
    have e9 : (cs8 l).take m = cs8 (l.take m) := by simp [cs8]
    rw [e9] at hr9
    have h40 : ¬ l.length < 4 := by omega
    have hm : l.length - 4 = m := by omega
    have HN := hide hn
    have hBs := opB_seal h40
    rw [hm] at hBs
    have q0 := hr.of_drew.str8
    rcases hb : opB l with _ | _
    · rw [hb] at hBs
      have HE := hide (opE_bad h40 hb)
      clear hb hn h40 hm e9
      go_enter Try.func18, Try.ntmps18
      go_wp2_with fail
      go_region_with (first
        | (go_at_call 19; refine (rSeal_any B _ _ _ _ _ hr9.of_drew (by simp; omega) (by omega)).mono ?_; rintro e w1 ⟨A1, n1, c1, rfl, ho1, hb1⟩; have q1 := (Row.of_own ho1).str8; have q2 := (hr.of_drew.keep hb1 (by simp; omega)).str8))
      all_goals
        go_wp2
        go_ret2
        exact Gives.none_at (opL_bad (by rw [HE.out]; decide)) HE.out ((Below.refl _ w).drew.trans hb1)
    · rw [hb] at hBs
      have HE := hide (opE_ok h40 hb)
      have HL := hide (opL_ok HE.out)
      have HM := hide hm
      clear hb hn h40 hm e9
      go_enter Try.func18, Try.ntmps18
      go_wp2_with fail
      go_region_with (first
        | (go_at_call 19; refine (rSeal_any B _ _ _ _ _ hr9.of_drew (by simp; omega) (by omega)).mono ?_; rintro e w1 ⟨A1, n1, c1, rfl, ho1, hb1⟩; have q1 := (Row.of_own ho1).str8; have q2 := (hr.of_drew.keep hb1 (by simp; omega)).str8))
      all_goals
        have hb01 : Below w.heap.size w w1 := (Below.refl _ w).drew.trans hb1
        go_wp2_with (at_builtin; refine wpList_append_row rfl (.tmp 20) (.tmp 23) 23 rfl w.heap.size 5 i0 _ 1 Try.underlying23 hi hz0 hz1 hz2 rfl _ 0 [] rfl (World.ownsRow_nil _ _ _ _) B _ _ _ _ rfl (hr9.keep hb01 hB) (cs8_one _) (by unfold maxLen; omega) (by omega) w hb01 (Nat.le_refl _) ?_; intro A2 c2 w2 ho2 hb2 hg2; simp only [Nat.zero_add, List.nil_append] at ho2)
        go_ret2
        rw [HL.out, HM.out]
        exact Gives.of HE.out (by simpa using ho2) hb2
theorem count_lo {a m : Int} (hm : 0 < m) (h : a.tmod m < 0) : a % m = a.tmod m + m := by
  have h1 := Int.tmod_eq_emod (a := a) (b := m)
  have h2 := Int.emod_nonneg a (show m ≠ 0 by omega)
  have h3 := Int.emod_lt_of_pos a hm
  have h4 : (m.natAbs : Int) = m := by omega
  split at h1 <;> omega
theorem count_hi {a m : Int} (hm : 0 < m) (h : ¬ a.tmod m < 0) : a % m = a.tmod m := by
  have h1 := Int.tmod_eq_emod (a := a) (b := m)
  have h2 := Int.emod_nonneg a (show m ≠ 0 by omega)
  have h3 := Int.emod_lt_of_pos a hm
  have h4 : (m.natAbs : Int) = m := by omega
  split at h1 <;> omega
theorem Count_any (a m : Int) (w : World) (hm : 0 < m) (hm2 : m ≤ 4294967295) :
    Calls Try.prog 21 #[.int .i64 a, .int .i64 m] w fun e w' => (∃ k : Nat, e = .returned (.int .i64 (k : Int)) ∧ (k : Int) < m) ∧ w = w' := by
  have hlo := Int.emod_nonneg a (show m ≠ 0 by omega)
  have hhi := Int.emod_lt_of_pos a hm
  by_cases h : a.tmod m < 0
  · have he := count_lo hm h
    have hw : wrap64 (a.tmod m + m) = a % m := by rw [← he]; unfold wrap64; omega
    clear he
    go_enter Try.func21, Try.ntmps21
    go_wp2
    go_ret
    exact ⟨⟨(a % m).toNat, ret_int (by omega), by omega⟩, rfl⟩
  · have HE := hide (count_hi hm h)
    have hd : decide (a.tmod m < 0) = false := by simpa using h
    go_enter Try.func21, Try.ntmps21
    go_wp2
    go_ret
    exact ⟨⟨(a % m).toNat, ret_int (by have := HE.out; omega), by omega⟩, rfl⟩
end Go.Proofs.Ytkabmpiofpgoaaa
