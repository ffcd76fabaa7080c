/-
  Contracts of Pad, of package sha and of the reference of layer 4.
-/
import Derived.Test.YtdikiabjkmigdaaGreatDoorSMem
namespace Go.Proofs.YtdikiabjkmigdaaGreatDoor
set_option maxRecDepth 20000
open Go.RowKit
set_option maxHeartbeats 400000

def pdB (n : Int) : Bool := decide (0 ≤ n ∧ n ≤ 1152921504606846976)
def pdE (n : Int) : Int := if pdB n = true then 0 else 1
def pdL (n : Int) : List UInt8 := if pdB n = true then padL n.toNat else []
theorem pd_ok (n : Nat) (h : n ≤ 1152921504606846976) : pdB (n : Int) = true := by unfold pdB; rw [decide_eq_true_iff]; omega
theorem pdE_ok (n : Nat) (h : n ≤ 1152921504606846976) : pdE (n : Int) = 0 := if_pos (pd_ok n h)
theorem pdL_ok (n : Nat) (h : n ≤ 1152921504606846976) : pdL (n : Int) = padL n := by unfold pdL; rw [if_pos (pd_ok n h)]; rfl
theorem pd_bad {n : Int} (h : n < 0 ∨ 1152921504606846976 < n) : pdB n = false := by unfold pdB; rw [decide_eq_false_iff_not]; omega
theorem pdE_bad {n : Int} (h : n < 0 ∨ 1152921504606846976 < n) : pdE n = 1 := if_neg (by rw [pd_bad h]; decide)
theorem pdL_bad {n : Int} (h : n < 0 ∨ 1152921504606846976 < n) : pdL n = [] := if_neg (by rw [pd_bad h]; decide)
theorem make_all (n : Nat) (h : n ≤ 65536) (W : World) :
    (Instr.makeSlice 29 (.int .i64 (n : Int)) (.int .i64 (n : Int))).run Tryz.prog W = .ok (.slice (some ⟨W.heap.size, 0, none⟩) n n) (W.alloc (.cells (cs8 (List.replicate n 0)).toArray 5)) := by
  have h1 := make8 n 0 (by omega) W
  have e : cs8 (List.replicate n 0) = List.replicate (n + 0) (.int .u8 0) := by simp [cs8]
  rw [e]
  simpa using h1
theorem make_blk (n : Nat) (h : n ≤ 65536) (W : World) : ∃ w1, (Instr.makeSlice 29 (.int .i64 (n : Int)) (.int .i64 (n : Int))).run Tryz.prog W = .ok (.slice (some ⟨W.heap.size, 0, none⟩) n n) w1 ∧ Blk w1 W.heap.size 5 (cs8 (List.replicate n 0)) ∧ Below W.heap.size W w1 :=
  ⟨_, make_all n h W, Blk.new _ _ _, (Below.refl _ _).alloc (Nat.le_refl _) _⟩
theorem own_of_blk {w : World} {base g n : Nat} {l : List UInt8} (h : Blk w g 5 (cs8 l)) (hb : base ≤ g) (hn : l.length = n) (hm : n ≤ 65536) : w.ownsRow base 5 1 (.slice (some ⟨g, 0, none⟩) n n) n (cs8 l) := by
  subst hn
  refine ⟨by rw [cs8_len, Nat.mul_one], .inr ⟨g, _, _, rfl, hb, h, Nat.le_refl _, by unfold maxLen; omega, by simp [cs8_len], ?_⟩⟩
  rw [Nat.mul_one]
  exact List.take_of_length_le (by simp [cs8_len])
/-- The padding with its last i bytes. -/
def padK (z v i : Nat) : List UInt8 := 128 :: (List.replicate (z + 8 - i) 0 ++ (leB i v).reverse)
theorem padK_len (z v i : Nat) (h : i ≤ 8) : (padK z v i).length = z + 9 := by unfold padK; simp [leB_len]; omega
theorem padK_end (n : Nat) : padK (padZ n) (8 * n) 8 = padL n := rfl
theorem padK_start (z v : Nat) : (List.replicate (z + 9) (0 : UInt8)).set 0 128 = padK z v 0 := by
  unfold padK; rw [List.replicate_succ]; simp [leB_zero]
theorem padK_next (z v i p : Nat) (hi : i < 8) (hp : p + i + 1 = z + 9) : (padK z v i).set p (byt (v / 256 ^ i)) = padK z v (i + 1) := by
  obtain ⟨q, rfl⟩ : ∃ q, p = q + 1 := ⟨p - 1, by omega⟩
  unfold padK
  rw [List.set_cons_succ, List.set_append_left _ _ (by simp; omega), leB_succ, List.reverse_append, List.reverse_singleton, show z + 8 - i = q + 1 by omega, show z + 8 - (i + 1) = q by omega, List.replicate_succ', List.set_append_right _ _ (by simp)]
  simp
theorem padK_at (z v i p : Nat) (hi : i ≤ 8) (hp : p < z + 9) : ∃ u : UInt8, (padK z v i)[p]? = some u := ⟨_, List.getElem?_eq_getElem (by rw [padK_len z v i hi]; exact hp)⟩
theorem Pad_bad (n : Int) (w : World) (h : n < 0 ∨ 1152921504606846976 < n) : Calls Tryz.prog 108 #[.int .i64 n] w (Gives w (pdL n) (pdE n)) := by
  have HL := hide (pdL_bad h)
  have HE := hide (pdE_bad h)
  by_cases h0 : n < 0
  · clear h
    go_enter Tryz.func108, Tryz.ntmps108
    go_wp2
    go_ret2
    exact Gives.none_ HL.out HE.out
  · have h1 : 1152921504606846976 < n := by omega
    have hd0 : decide (n < 0) = false := by simpa using h0
    clear h
    go_enter Tryz.func108, Tryz.ntmps108
    go_wp2
    go_ret2
    exact Gives.none_ HL.out HE.out
theorem Pad_ok (n : Nat) (w : World) (h : n ≤ 1152921504606846976) : Calls Tryz.prog 108 #[.int .i64 (n : Int)] w (Gives w (pdL n) (pdE n)) := by
  have HL := hide (pdL_ok n h)
  have HE := hide (pdE_ok n h)
  have hd0 : decide ((n : Int) < 0) = false := by simp
  have hd1 : decide ((1152921504606846976 : Int) < (n : Int)) = false := by simp; omega
  obtain ⟨r, hr, HR⟩ : ∃ r : Nat, (n : Int) % 64 = (r : Int) ∧ Hid (r = n % 64) := ⟨n % 64, by omega, rfl⟩
  have hr63 : r ≤ 63 := by omega
  obtain ⟨sz, HZ⟩ : ∃ z, Hid (z = padZ n + 9) := ⟨_, rfl⟩
  have hz9 : 9 ≤ sz := by rw [HZ.out]; omega
  have hz72 : sz ≤ 72 := by rw [HZ.out]; have := padZ_lt n; omega
  obtain ⟨w1, hmk, hk1, hb1⟩ := make_blk sz (by omega) w
  obtain ⟨z, hz2⟩ : ∃ z, Hid (sz = z + 9) := ⟨sz - 9, by show _ = _; omega⟩
  have hc0 := hk1.cell (j := 0) (v := .int .u8 0) (by rw [hz2.out]; rfl)
  have hfz0 := hk1.frozen 0
  have HK := hide (hk1.set 0 (.int .u8 128))
  have HB := hide (hb1.setCell (p := ⟨w.heap.size, 0, none⟩) (Nat.le_refl _) (.int .u8 128))
  clear hk1 hb1
  have hz : ((64 : Int) - (r : Int) = (sz : Int) ∧ decide ((sz : Int) < 9) = false) ∨ ∃ y : Nat, (64 : Int) - (r : Int) = (y : Int) ∧ (y : Int) + 64 = (sz : Int) ∧ y ≤ 8 ∧ decide ((y : Int) < 9) = true := by
    have h1 := HZ.out
    have h2 := HR.out
    unfold padZ at h1
    by_cases hr55 : r ≤ 55
    · exact .inl ⟨by omega, by simp; omega⟩
    · exact .inr ⟨64 - r, by omega, by omega, by omega, by simp; omega⟩
  have hn8 : (n : Int) * 8 = ((8 * n : Nat) : Int) := by omega
  have hv : 8 * n ≤ 9223372036854775808 := by omega
  obtain ⟨v, HV⟩ : ∃ v, Hid (v = 8 * n) := ⟨_, rfl⟩
  rw [← HV.out] at hn8 hv
  have hsz0 : (0 : Int) < (sz : Int) := by omega
  go_enter Tryz.func108, Tryz.ntmps108
  have h128 : (cs8 (List.replicate sz 0)).set 0 (.int .u8 128) = cs8 (padK z v 0) := by rw [hz2.out, ← padK_start z v, ← cs8_set]; rfl
  rw [h128] at HK
  clear h128
  rcases hz with ⟨hz, hy⟩ | ⟨y, hz, hy1, hy8, hy⟩
  all_goals
    go_wp2
    clear hc0 hfz0 hmk
    generalize World.setCell _ _ _ = w2 at HK HB ⊢
    go_loopw [28] (fun i wr => ∃ (j : Nat), j ≤ 8 ∧ i = .int .i64 (j : Int) ∧ Blk wr w.heap.size 5 (cs8 (padK z v j)) ∧ Below w.heap.size w wr) (fun i _ => 8 - (intOf i).toNat)
    case atStart => exact ⟨0, Nat.zero_le _, rfl, HK, HB⟩
    case round =>
      clear HK HB
      obtain ⟨j, hj, rfl, hk, hb⟩ := hrel
      by_cases hlt : j < 8
      · obtain ⟨p, hp⟩ : ∃ p : Nat, (sz : Int) - 1 - (j : Int) = (p : Int) := ⟨sz - 1 - j, by omega⟩
        have hpz : (p : Int) < (sz : Int) := by omega
        have hpz2 := hz2.out
        obtain ⟨u, hu⟩ := padK_at z v j p hj (by omega)
        have hc := hk.cell (j := p) (v := .int .u8 (u.toNat : Int)) (by simp [cs8, hu])
        have hfz := hk.frozen p
        have hN := padK_next z v j p hlt (by omega)
        have hsb := shr_byte v j
        have HK := hide (hk.set p (.int .u8 ((byt (v / 256 ^ j)).toNat : Int)))
        rw [cs8_set, hN] at HK
        have HB := hide (hb.setCell (p := ⟨w.heap.size, p, none⟩) (Nat.le_refl _) (.int .u8 ((byt (v / 256 ^ j)).toNat : Int)))
        clear hk hb hu hN hpz2
        go_wp2
        go_roundw
        case rel => exact ⟨j + 1, by omega, by go_num, HK, HB⟩
        case measure => simp [intOf]; omega
      · obtain rfl : j = 8 := by omega
        have hl := padK_len z v 8 (by omega)
        have he : padK z v 8 = padL n := by rw [← padK_end n, ← HV.out, show padZ n = z by have h1 := HZ.out; have h2 := hz2.out; omega]
        have ho := own_of_blk (base := w.heap.size) (n := sz) hk (Nat.le_refl _) (by rw [hl]; exact hz2.out.symm) (by omega)
        rw [he, ← HL.out] at ho
        clear he hl hk
        go_wp2
        go_ret2
        exact Gives.of HE.out ho hb
theorem Pad_any (n : Int) (w : World) : Calls Tryz.prog 108 #[.int .i64 n] w (Gives w (pdL n) (pdE n)) := by
  by_cases h : n < 0 ∨ 1152921504606846976 < n
  · exact Pad_bad n w h
  · obtain ⟨k, rfl⟩ : ∃ k : Nat, n = (k : Int) := ⟨n.toNat, by omega⟩
    exact Pad_ok k w (by omega)
end Go.Proofs.YtdikiabjkmigdaaGreatDoor
