/-
  The statements OctetPuts and OctetGets: each call returns true and changes nothing that was there.
-/
import Derived.Test.YtmajnkdfchjcbaaOKnown
namespace Go.Proofs.Ytmajnkdfchjcbaa
open Go.RowKit
set_option maxHeartbeats 400000

theorem wf_u64 {a : Int} (h : (Lit.int .u64 a).wf = true) : 0 ≤ a ∧ a ≤ 18446744073709551615 := by
  simpa [Lit.wf, IntKind.min, IntKind.max, IntKind.signed, IntKind.bits] using h
theorem wf_i32 {a : Int} (h : (Lit.int .i32 a).wf = true) : -2147483648 ≤ a ∧ a ≤ 2147483647 := by
  simpa [Lit.wf, IntKind.min, IntKind.max, IntKind.signed, IntKind.bits] using h
theorem putL_len (l : List UInt8) (width : Int) (v : Nat) : (putL l width v).length ≤ l.length + 8 := by
  unfold putL
  by_cases h : putE width v = 0
  · rw [if_pos h, List.length_append, leB_len]
    have : widB width = true := by
      unfold putE at h
      by_cases hw : widB width = true
      · exact hw
      · rw [if_neg hw] at h; cases h
    have := of_decide_eq_true this
    omega
  · rw [if_neg h]; simp
theorem puts_walk (A : Option Addr) (n c : Nat) (l : List UInt8) (width v : Int) (w : World) (hr : Row w w.heap.size A n c (cs8 l)) (_hw : (Lit.int .i64 width).wf = true) (hv0 : (Lit.int .u64 v).wf = true) :
    Calls Try.prog 3 #[.slice A n c, .int .i64 width, .int .u64 v] w fun e w' => e = .returned (.bool true) ∧ Below w.heap.size w w' := by
  have hv1 := wf_u64 hv0
  obtain ⟨v, rfl⟩ : ∃ k : Nat, v = (k : Int) := ⟨v.toNat, by omega⟩
  have hv : v ≤ 18446744073709551615 := by omega
  clear hv0 hv1
  by_cases hbig : 1048576 < n
  · have hd : decide ((1048576 : Int) < (n : Int)) = true := by simp; omega
    go_enter Try.func3, Try.ntmps3
    go_wp2_with (go_at_call 10; refine (known_any _).mono ?_; rintro e w1 ⟨rfl, hb1⟩)
    go_ret
    exact ⟨rfl, hb1⟩
  · have HV := hide hv
    clear hv
    go_enter Try.func3, Try.ntmps3
    go_wp2_with fail
    refine (Lent_any w.heap.size A n c l w hr (by omega)).mono ?_
    rintro e w1 ⟨g, c1, rfl, ho1, hb1⟩
    have hs1 := hb1.size
    have hk1 := Row.of_own ho1
    have hp1 := hk1.pre (b := n) (by omega)
    have hn : l.length = n := by have := hr.len; rwa [cs8_len] at this
    rw [cs8_snoc, List.take_left' (by rw [cs8_len]; exact hn)] at hp1
    have HN := hide hn
    clear hn
    go_wp2_with fail
    refine (Put_any w1.heap.size _ _ _ l width v w1 hp1 (Nat.le_refl _) (by omega)).mono ?_
    rintro e w2 ⟨A2, n2, c2, rfl, ho2, hb2⟩
    have hs2 := hb2.size
    have hr2 := (hr.keep hb1 (Nat.le_refl _)).keep hb2 hs1
    have hk2 := hk1.keep hb2 (Nat.le_refl _)
    go_wp2_with fail
    refine (rPut_any w.heap.size _ _ _ l width v w2 hr2 (by omega) (by omega) HV.out).mono ?_
    rintro e w3 ⟨A3, n3, c3, rfl, ho3, hb3⟩
    have hs3 := hb3.size
    have hr3 := hr2.keep hb3 (by omega)
    have hk3 := hk2.keep hb3 hs2
    have ho23 := own_keep ho2 hb3
    have k1 := (Row.of_own ho23).str (P := Try.prog) (dst := 9) Try.underlying22 Try.underlying5 Try.underlying9
    have k2 := (Row.of_own ho3).str (P := Try.prog) (dst := 9) Try.underlying22 Try.underlying5 Try.underlying9
    have hn2 : n2 ≤ 1099511627776 := by
      have h1 := own8_len ho2
      have h2 : (putL l width v).length ≤ l.length + 8 := putL_len l width v
      have h3 := HN.out
      omega
    go_wp2_with (first
      | (go_at_call 14; refine (Kept_any w.heap.size w1.heap.size _ _ _ _ _ l _ (by assumption) (by assumption) (by omega)).mono ?_; rintro e w' ⟨rfl, rfl⟩)
      | (go_at_call 15; refine (Spoil_any _ _ _ _ _ _ ho23 (by omega) hn2).mono ?_; rintro e w4 ⟨rfl, hg4⟩; have hb4 := grown_below hg4 ho23 (by omega); have hr4 := hr3.keep hb4 hs1; have hk4 := hk3.keep hb4 (Nat.le_refl _); have hs4 := hb4.size)
      | (go_at_call 10; refine (known_any _).mono ?_; rintro e w5 ⟨rfl, hb5⟩))
    go_ret
    exact ⟨rfl, (((hb1.trans (hb2.mono hs1)).trans (hb3.mono (by omega))).trans (hb4.mono hs1)).trans (hb5.mono (by omega))⟩
theorem gets_walk (A : Option Addr) (n c : Nat) (l : List UInt8) (a width : Int) (w : World) (hr : Row w w.heap.size A n c (cs8 l)) (_ha : (Lit.int .i64 a).wf = true) (_hw : (Lit.int .i64 width).wf = true) :
    Calls Try.prog 4 #[.slice A n c, .int .i64 a, .int .i64 width] w fun e w' => e = .returned (.bool true) ∧ Below w.heap.size w w' := by
  by_cases hbig : 1048576 < n
  · have hd : decide ((1048576 : Int) < (n : Int)) = true := by simp; omega
    go_enter Try.func4, Try.ntmps4
    go_wp2_with (go_at_call 10; refine (known_any _).mono ?_; rintro e w1 ⟨rfl, hb1⟩)
    go_ret
    exact ⟨rfl, hb1⟩
  · go_enter Try.func4, Try.ntmps4
    go_wp2_with fail
    refine (Lent_any w.heap.size A n c l w hr (by omega)).mono ?_
    rintro e w1 ⟨g, c1, rfl, ho1, hb1⟩
    have hs1 := hb1.size
    have hk1 := Row.of_own ho1
    have hp1 := hk1.pre (b := n) (by omega)
    have hn : l.length = n := by have := hr.len; rwa [cs8_len] at this
    rw [cs8_snoc, List.take_left' (by rw [cs8_len]; exact hn)] at hp1
    clear hn
    have hr1 := hr.keep hb1 (Nat.le_refl _)
    go_wp2_with (first
      | (go_at_call 16; refine (Get_any w1.heap.size _ _ _ l _ _ _ hp1).mono ?_; rintro e w' ⟨rfl, rfl⟩)
      | (go_at_call 17; refine (rGet_any w.heap.size _ _ _ l _ _ _ hr1).mono ?_; rintro e w' ⟨rfl, rfl⟩)
      | (go_at_call 14; refine (Kept_any w.heap.size w1.heap.size _ _ _ _ _ l _ hk1 hr1 (by omega)).mono ?_; rintro e w' ⟨rfl, rfl⟩)
      | (go_at_call 10; refine (known_any _).mono ?_; rintro e w5 ⟨rfl, hb5⟩))
    go_ret
    exact ⟨rfl, hb1.trans (hb5.mono hs1)⟩
end Go.Proofs.Ytmajnkdfchjcbaa
