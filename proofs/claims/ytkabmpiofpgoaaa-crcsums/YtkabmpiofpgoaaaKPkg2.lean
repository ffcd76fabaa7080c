/-
  Contracts of package crc: Seal, Open; and bytes.Clone.
-/
import Derived.Test.YtkabmpiofpgoaaaKPkg
namespace Go.Proofs.Ytkabmpiofpgoaaa
open Go.RowKit
set_option maxHeartbeats 400000

theorem Put4 (B : Nat) (A : Option Addr) (n c : Nat) (l : List UInt8) (v : Nat) (w : World) (hr : Row w B A n c (cs8 l)) (hB : B ≤ w.heap.size) (hl : n ≤ 1099511627776) (hv : v < 256 ^ 4) :
    Calls Try.prog 23 #[.slice A n c, .int .i64 4, .int .u64 (v : Int)] w (Gives w (l ++ leB 4 v) 0) := by
  have e : putE ((4 : Nat) : Int) v = 0 := by rw [putE_nat ⟨by omega, by omega⟩, if_pos hv]
  have h := Put_any B A n c l ((4 : Nat) : Int) v w hr hB hl
  rwa [putL_ok e, e] at h
theorem Get4 (B : Nat) (A : Option Addr) (n c : Nat) (l : List UInt8) (m : Nat) (w : World) (hr : Row w B A n c (cs8 l)) (hm : m + 4 = l.length) :
    Calls Try.prog 24 #[.slice A n c, .int .i64 (m : Int), .int .i64 4] w fun e w' => e = .returned (.tuple #[.int .u64 (leN (l.drop m) : Int), .int .i64 0]) ∧ w = w' := by
  have e : getE l.length (m : Int) ((4 : Nat) : Int) = 0 := by rw [getE_nat ⟨by omega, by omega⟩ (by omega), if_pos (by omega)]
  refine (Get_any B A n c l m ((4 : Nat) : Int) w hr).mono ?_
  rintro e' w' ⟨rfl, rfl⟩
  refine ⟨ret_get ?_ e, rfl⟩
  rw [getN_ok e, List.take_of_length_le (by rw [List.length_drop]; omega)]
theorem Seal_any (B : Nat) (A : Option Addr) (n c : Nat) (l : List UInt8) (w : World) (hr : Row w B A n c (cs8 l)) (hB : B ≤ w.heap.size) (hl : n ≤ 1099511627776) :
    Calls Try.prog 16 #[.slice A n c] w (LayPost w.heap.size w (sealL l)) := by
  have hcb := crcOn_lt 0 l
  have HC := hide (crc256 l)
  go_enter Try.func16, Try.ntmps16
  go_wp2_with (first
    | (go_at_call 13; refine (Sum_any B _ _ _ l _ hr hB).mono ?_; rintro e w1 ⟨rfl, hb1⟩; have hs1 := hb1.size)
    | (go_at_call 23; refine (Put4 B _ _ _ l _ _ (hr.keep hb1 hB) (by omega) hl HC.out).mono ?_; rintro e w2 ⟨A2, n2, c2, rfl, ho2, hb2⟩))
  go_ret
  exact ⟨A2, n2, c2, rfl, own_base hs1 ho2, hb1.trans (hb2.mono hs1)⟩
theorem eq_nil_in {P : Program} (d : Nat) (t e : TypeId) (h : P.underlying t = some (.slice e)) (A : Option Addr) (n c : Nat) (w : World) : (Op.equalIn (d + 1) t (.slice A n c) (.slice none 0 0)).run P w = .ok A.isNone w := by
  cases A <;> simp [Op.equalIn, run_underlying h]
theorem eq_nil (A : Option Addr) (n c : Nat) (w : World) : (binOp .eql 23 (.slice A n c) (.slice none 0 0)).run Try.prog w = .ok (.bool A.isNone) w := by
  have h : (Op.equal 23 (.slice A n c) (.slice none 0 0)).run Try.prog w = .ok A.isNone w := eq_nil_in 9999 23 5 Try.underlying23 A n c w
  simp only [binOp]
  simp [h]
theorem Clone_any (B : Nat) (A : Option Addr) (n c : Nat) (l : List UInt8) (w : World) (hr : Row w B A n c (cs8 l)) (hB : B ≤ w.heap.size) (hl : n ≤ 1099511627776) :
    Calls Try.prog 25 #[.slice A n c] w (LayPost w.heap.size w l) := by
  obtain ⟨i0, hi, hz0, hz1, hz2⟩ := info_parts info8
  have hq := eq_nil A n c w
  rcases A with _ | ad
  · have h0 := hr.nil rfl
    have hc := hr.cap
    obtain rfl : n = 0 := by omega
    subst h0
    obtain rfl : l = [] := List.eq_nil_of_length_eq_zero (by have := hr.len; rwa [cs8_len] at this)
    go_enter Try.func25, Try.ntmps25
    go_wp2
    go_ret
    exact ⟨_, _, _, rfl, World.ownsRow_nil _ _ _ _, Below.refl _ _⟩
  · go_enter Try.func25, Try.ntmps25
    go_wp2_with (at_builtin; refine wpList_append_row rfl (.tmp 5) (.tmp 6) 23 rfl w.heap.size 5 i0 _ 1 Try.underlying23 hi hz0 hz1 hz2 rfl _ 0 [] rfl (World.ownsRow_lit (size := 1) w #[] 0 (Nat.le_refl _) (Nat.zero_le _) rfl) B _ _ _ _ rfl (hr.alloc hB _) (cs8_one l) (by unfold maxLen; omega) (by omega) w ((Below.refl _ _).alloc (Nat.le_refl _) _) (Nat.le_refl _) ?_; intro A2 c2 w2 ho2 hb2 hg2; simp only [Nat.zero_add, List.nil_append] at ho2)
    go_ret
    exact ⟨A2, _, c2, rfl, by simpa using ho2, hb2⟩
theorem Open_any (B : Nat) (A : Option Addr) (n c : Nat) (l : List UInt8) (w : World) (hr : Row w B A n c (cs8 l)) (hB : B ≤ w.heap.size) (hl : n ≤ 1099511627776) :
    Calls Try.prog 17 #[.slice A n c] w (Gives w (opL l) (opE l)) := by
  have hn := hr.len
  rw [cs8_len] at hn
  by_cases h4 : n < 4
  · have HE := hide (opE_short (l := l) (by omega))
    go_enter Try.func17, Try.ntmps17
    go_wp2
    go_ret2
    exact Gives.none_ (opL_bad (by rw [HE.out]; decide)) HE.out
  · obtain ⟨m, rfl⟩ : ∃ m, n = m + 4 := ⟨n - 4, by omega⟩
    obtain ⟨A9, c9, hsl, hr9⟩ := hr.headed Try.underlying23 size8 (hi := m) (by omega) (m : Int) rfl
    have e9 : (cs8 l).take m = cs8 (l.take m) := by simp [cs8]
    rw [e9] at hr9
    have hcb := crcOn_lt 0 (l.take m)
    have hlb : leN (l.drop m) ≤ 4294967295 := by
      have h1 := leN_lt (l.drop m)
      rw [List.length_drop, hn, Nat.add_sub_cancel_left] at h1
      omega
    have h40 : ¬ l.length < 4 := by omega
    have hm : l.length - 4 = m := by omega
    have HN := hide hn
    have HB : Hid (opB l = (leN (l.drop m) == crcOn 0 (l.take m))) := by show opB l = _; rw [opB, hm]
    rcases hb : opB l with _ | _
    · have HE := hide (opE_bad h40 hb)
      have hne : ((leN (l.drop m) : Int) != (crcOn 0 (l.take m) : Int)) = true := by
        rw [HB.out] at hb; rw [bne_iff_ne]; intro h
        rw [show leN (l.drop m) = crcOn 0 (l.take m) by omega] at hb; simp at hb
      clear hb hn h40 hm e9
      go_enter Try.func17, Try.ntmps17
      go_wp2_with (first
        | (go_at_call 24; refine (Get4 B _ _ _ l m _ hr HN.out.symm).mono ?_; rintro e w' ⟨rfl, rfl⟩)
        | (go_at_call 13; refine (Sum_any B _ _ _ _ _ hr9 hB).mono ?_; rintro e w1 ⟨rfl, hb1⟩))
      go_ret2
      exact Gives.none_at (opL_bad (by rw [HE.out]; decide)) HE.out hb1
    · have HE := hide (opE_ok h40 hb)
      have HL := hide (opL_ok HE.out)
      have HM := hide hm
      have hne : ((leN (l.drop m) : Int) != (crcOn 0 (l.take m) : Int)) = false := by
        rw [HB.out, beq_iff_eq] at hb; rw [hb]; simp
      clear hb hn h40 hm e9
      go_enter Try.func17, Try.ntmps17
      go_wp2_with (first
        | (go_at_call 24; refine (Get4 B _ _ _ l m _ hr HN.out.symm).mono ?_; rintro e w' ⟨rfl, rfl⟩)
        | (go_at_call 13; refine (Sum_any B _ _ _ _ _ hr9 hB).mono ?_; rintro e w1 ⟨rfl, hb1⟩; have hs1 := hb1.size)
        | (go_at_call 25; refine (Clone_any B _ _ _ _ _ (hr9.keep hb1 hB) (by omega) (by omega)).mono ?_; rintro e w2 ⟨A2, n2, c2, rfl, ho2, hb2⟩))
      go_ret2
      rw [HL.out, HM.out]
      exact Gives.of HE.out (own_base hs1 ho2) (hb1.trans (hb2.mono hs1))
end Go.Proofs.Ytkabmpiofpgoaaa
