/-
  Contracts of Unhex, of package sha and of the reference of layer 4.
-/
import Derived.Test.YtfbboiagfjkgcaaDoorSHex2
namespace Go.Proofs.YtfbboiagfjkgcaaDoor
open Go.RowKit
set_option maxHeartbeats 800000

def chr (l : List UInt8) (i : Nat) : UInt8 := l.getD i 0
theorem chr_at {l : List UInt8} {i : Nat} (h : i < l.length) : l[i] = chr l i := by unfold chr; rw [List.getD_eq_getElem?_getD, List.getElem?_eq_getElem h]; rfl
/-- The digest's byte p behind j digits. -/
def valP (l : List UInt8) (j p : Nat) : UInt8 := if 2 * p + 2 ≤ j then pairB (chr l (2 * p)) (chr l (2 * p + 1)) else if 2 * p + 1 = j then byt (undig (chr l (2 * p))) else 0
def unK (l : List UInt8) (j : Nat) : List UInt8 := (List.range 32).map (valP l j)
def unM (l : List UInt8) : List UInt8 := if unhB l = true then unK l 64 else List.replicate 32 0
theorem unK_len (l : List UInt8) (j : Nat) : (unK l j).length = 32 := by simp [unK]
theorem unM_len (l : List UInt8) : (unM l).length = 32 := by unfold unM; split <;> simp [unK_len]
theorem unK_zero (l : List UInt8) : unK l 0 = List.replicate 32 0 := by
  unfold unK
  rw [show valP l 0 = fun _ => 0 from funext fun p => by unfold valP; rw [if_neg (by omega), if_neg (by omega)]]
  rfl
theorem unK_at (l : List UInt8) (j p : Nat) (h : p < 32) : (unK l j)[p]? = some (valP l j p) := by unfold unK; simp [h]
theorem valP_other (l : List UInt8) (j k p : Nat) (h : 2 * p + 2 ≤ j ∨ k < 2 * p + 1) (hjk : j ≤ k) : valP l k p = valP l j p := by
  unfold valP
  rcases h with h | h
  · rw [if_pos (by omega), if_pos h]
  · rw [if_neg (by omega), if_neg (by omega), if_neg (by omega), if_neg (by omega)]
theorem unK_set (l : List UInt8) (j k p : Nat) (hp : p < 32) (hj : 2 * p ≤ j) (hk : k ≤ 2 * p + 2) (hjk : j ≤ k) : (unK l j).set p (valP l k p) = unK l k := by
  apply List.ext_getElem?
  intro i
  rw [List.getElem?_set]
  by_cases h : p = i
  · subst h
    rw [if_pos rfl, unK_len, if_pos hp, unK_at l k p hp]
  · rw [if_neg h]
    by_cases hi : i < 32
    · rw [unK_at l j i hi, unK_at l k i hi, valP_other l j k i (by omega) hjk]
    · rw [List.getElem?_eq_none (by rw [unK_len]; omega), List.getElem?_eq_none (by rw [unK_len]; omega)]
theorem val_step (l : List UInt8) (j p : Nat) (hp : p = j / 2) (hd : ∀ k, k ≤ j → undig (chr l k) < 16) : bits .or .u8 (((valP l j p).toNat : Int) * 16 % 256) (undig (chr l j) : Int) = ((valP l (j + 1) p).toNat : Int) := by
  have h1 := hd j (Nat.le_refl _)
  rcases Nat.mod_two_eq_zero_or_one j with h | h
  · have e : valP l j p = 0 := by unfold valP; rw [if_neg (by omega), if_neg (by omega)]
    have e2 : valP l (j + 1) p = byt (undig (chr l j)) := by unfold valP; rw [if_neg (by omega), if_pos (by omega), show 2 * p = j by omega]
    rw [e, e2, byt_toNat]
    have e3 : ((0 : UInt8).toNat : Int) * 16 % 256 = ((0 : Nat) : Int) := by rfl
    rw [e3, u8_or_nat _ _ (by omega) (by omega)]
    simp; omega
  · have h2 := hd (2 * p) (by omega)
    have e : valP l j p = byt (undig (chr l (2 * p))) := by unfold valP; rw [if_neg (by omega), if_pos (by omega)]
    have e2 : valP l (j + 1) p = pairB (chr l (2 * p)) (chr l j) := by unfold valP; rw [if_pos (by omega), show 2 * p + 1 = j by omega]
    rw [e, e2, byt_toNat]
    unfold pairB
    rw [byt_toNat]
    have e3 : ((undig (chr l (2 * p)) % 256 : Nat) : Int) * 16 % 256 = ((undig (chr l (2 * p)) * 2 ^ 4 : Nat) : Int) := by omega
    rw [e3, u8_or_nat _ _ (by omega) (by omega), ← Nat.shiftLeft_eq, ← Nat.shiftLeft_add_eq_or_of_lt (by omega), Nat.shiftLeft_eq]
    omega
theorem pair_step (l : List UInt8) (i : Nat) : valP l (2 * i + 2) i = pairB (chr l (2 * i)) (chr l (2 * i + 1)) := by unfold valP; rw [if_pos (by omega)]
theorem unhB_ok (l : List UInt8) (h : l.length = 64) (hd : ∀ k, k < 64 → undig (chr l k) < 16) : unhB l = true := by
  unfold unhB
  rw [Bool.and_eq_true, decide_eq_true_iff, List.all_eq_true]
  refine ⟨h, fun x hx => ?_⟩
  obtain ⟨i, hi, rfl⟩ := List.getElem_of_mem hx
  rw [decide_eq_true_iff, chr_at]
  exact hd i (by omega)
theorem unhB_len (l : List UInt8) (h : l.length ≠ 64) : unhB l = false := by unfold unhB; simp [h]
theorem unhB_bad (l : List UInt8) (h : l.length = 64) (j : Nat) (hj : j < 64) (hd : ¬ undig (chr l j) < 16) : unhB l = false := by
  rw [← Bool.not_eq_true]
  intro hb
  unfold unhB at hb
  rw [Bool.and_eq_true, List.all_eq_true] at hb
  have := hb.2 l[j] (List.getElem_mem _)
  rw [decide_eq_true_iff, chr_at] at this
  exact hd this
def UnhPost (w : World) (l : List UInt8) (e : Ending) (w' : World) : Prop := e = .returned (.tuple #[.agg (cs8 (unM l)).toArray, .int .i64 (unhE l)]) ∧ Below w.heap.size w w'
theorem UnhPost.bad {w w' : World} {l : List UInt8} (h : unhB l = false) (hb : Below w.heap.size w w') : UnhPost w l (.returned (.tuple #[.agg (cs8 (List.replicate 32 0)).toArray, .int .i64 4])) w' := by
  refine ⟨?_, hb⟩
  unfold unM unhE
  rw [h]; rfl
theorem UnhPost.ok {w w' : World} {l : List UInt8} (h : unhB l = true) (hb : Below w.heap.size w w') : UnhPost w l (.returned (.tuple #[.agg (cs8 (unK l 64)).toArray, .int .i64 0])) w' := by
  refine ⟨?_, hb⟩
  unfold unM unhE
  rw [h]; rfl
theorem undI_pos {c : UInt8} (h : undig c < 16) : undI c = (undig c : Int) := if_pos h
theorem undI_neg {c : UInt8} (h : ¬ undig c < 16) : undI c = -1 := if_neg h
theorem run_chr (l : List UInt8) (i : Nat) (h : i < l.length) (I : Int) (hI : I = (i : Int)) (w : World) : (Instr.index 9 (.string ⟨l.toArray⟩) (.int .i64 I)).run Tryd.prog w = .ok (.int .u8 ((chr l i).toNat : Int)) w := by
  subst hI
  have h1 : (ByteArray.mk l.toArray)[i]? = some (chr l i) := by
    rw [← chr_at h]; exact getElem?_pos (ByteArray.mk l.toArray) i h
  simp [Instr.index, asIntOf, run_underlying Tryd.underlying9, h1, Result.andThen]
theorem zeros_b : (cs8 (List.replicate 32 0)).length = 32 := rfl
theorem Unhex_any (l : List UInt8) (w : World) : Calls Tryd.prog 21 #[.string ⟨l.toArray⟩] w (UnhPost w l) := by
  have hsz : (ByteArray.mk l.toArray).size = l.length := rfl
  by_cases h64 : l.length = 64
  · go_enter Tryd.func21, Tryd.ntmps21
    go_wp2
    go_loopw [13] (fun i wr => ∃ (j : Nat), j ≤ 64 ∧ i = .int .i64 (j : Int) ∧ Hid (∀ k, k < j → undig (chr l k) < 16) ∧ Blk wr (w.heap.size + 1) 37 (cs8 (unK l j)) ∧ Blk wr w.heap.size 37 (cs8 (List.replicate 32 0)) ∧ Below w.heap.size w wr) (fun i _ => 64 - (intOf i).toNat)
    case atStart => exact ⟨0, Nat.zero_le _, rfl, fun k hk => absurd hk (by omega), by rw [unK_zero]; exact Blk.at _ _ _ (by simp), (Blk.at _ _ _ rfl).alloc _, ((Below.refl _ _).alloc (Nat.le_refl _) _).alloc (by simp) _⟩
    case round =>
      obtain ⟨j, hj, rfl, HD, hk1, hk0, hb⟩ := hrel
      by_cases hlt : j < 64
      · have hix := fun w => run_chr l j (by omega) (j : Int) rfl w
        have HL := hide h64
        by_cases hu : undig (chr l j) < 16
        · have HE := hide (undI_pos hu)
          obtain ⟨p, hp, HP⟩ : ∃ p : Nat, (j : Int) / 2 = (p : Int) ∧ Hid (p = j / 2) := ⟨j / 2, by omega, rfl⟩
          have hp32 : (p : Int) < 32 := by omega
          have hpn : p < 32 := by omega
          have HD2 : Hid (∀ k, k < j + 1 → undig (chr l k) < 16) := fun k hk => by
            by_cases hkj : k = j
            · subst hkj; exact hu
            · exact HD.out k (by omega)
          have hv := val_step l j p HP.out (fun k hk => HD2.out k (by omega))
          have hN := unK_set l j (j + 1) p hpn (by have := HP.out; omega) (by have := HP.out; omega) (by omega)
          have hc := hk1.cell (j := p) (v := .int .u8 ((valP l j p).toNat : Int)) (by simp [cs8, unK_at l j p hpn])
          have hfz := hk1.frozen p
          have HK := hide (hk1.set p (.int .u8 ((valP l (j + 1) p).toNat : Int)))
          rw [cs8_set, hN] at HK
          have H0 := hide (hk0.other (h := w.heap.size + 1) (by omega) p (.int .u8 ((valP l (j + 1) p).toNat : Int)))
          have HB := hide (hb.setCell (p := ⟨w.heap.size + 1, p, none⟩) (show w.heap.size ≤ w.heap.size + 1 by omega) (.int .u8 ((valP l (j + 1) p).toNat : Int)))
          have hvl := (valP l j p).toNat_lt
          have hul : undig (chr l j) ≤ 15 := by omega
          clear hk1 hk0 hb hN hu
          go_wp2_with (go_at_call 35; refine (IndexByte_any _ _).mono ?_; rw [HE.out]; rintro e' w' ⟨rfl, rfl⟩)
          go_roundw
          case rel => exact ⟨j + 1, by omega, by go_num, HD2, HK, H0, HB⟩
          case measure => simp [intOf]; omega
        · have HE := hide (undI_neg hu)
          have HB := hide (unhB_bad l h64 j hlt hu)
          go_wp2_with (first
            | (go_at_call 35; refine (IndexByte_any _ _).mono ?_; rw [HE.out]; rintro e' w' ⟨rfl, rfl⟩)
            | (refine wpList_storeB rfl 37 (.tmp 2) (.tmp 22) rfl _ (cs8 (List.replicate 32 0)) rfl rfl 37 _ hk0 32 size32b zeros_b rfl (cs8_one _) ?_))
          refine ret_cell2 rfl Tryd.underlying37 size32b rfl rfl (hk0.row _) zeros_b rfl ?_
          exact UnhPost.bad HB.out (below_setRow hb (Nat.le_refl _) _)
      · obtain rfl : j = 64 := by omega
        have HB := hide (unhB_ok l h64 HD.out)
        have hlk : (cs8 (unK l 64)).length = 32 := by rw [cs8_len, unK_len]
        go_wp2_with (first
          | (refine wpList_loadB rfl 37 (.tmp 4) rfl _ rfl 37 _ hk1 32 5 Tryd.underlying37 size32b hlk ?_)
          | (refine wpList_storeB rfl 37 (.tmp 2) (.tmp 35) rfl _ (cs8 (unK l 64)) rfl rfl 37 _ hk0 32 size32b hlk rfl (cs8_one _) ?_))
        refine ret_cell2 rfl Tryd.underlying37 size32b rfl rfl (hk0.row _) hlk rfl ?_
        exact UnhPost.ok HB.out (below_setRow hb (Nat.le_refl _) _)
  · have hd : ((l.length : Int) != 64) = true := by rw [bne_iff_ne]; omega
    have HB := hide (unhB_len l h64)
    go_enter Tryd.func21, Tryd.ntmps21
    go_wp2_with (refine wpList_storeB rfl 37 (.tmp 2) (.tmp 10) rfl w.heap.size (cs8 (List.replicate 32 0)) rfl rfl 37 (cs8 (List.replicate 32 0)) ((Blk.at _ _ _ rfl).alloc _) 32 size32b zeros_b rfl (cs8_one _) ?_)
    refine ret_cell2 rfl Tryd.underlying37 size32b rfl rfl (Blk.row ((Blk.at (cs := cs8 (List.replicate 32 0)) _ _ rfl).alloc _) _) zeros_b rfl ?_
    exact UnhPost.bad HB.out (below_setRow (((Below.refl _ _).alloc (Nat.le_refl _) _).alloc (by simp) _) (Nat.le_refl _) _)
theorem pair_val (l : List UInt8) (i : Nat) (h1 : undig (chr l (2 * i)) < 16) (h2 : undig (chr l (2 * i + 1)) < 16) : (16 * (undig (chr l (2 * i)) : Int) + (undig (chr l (2 * i + 1)) : Int)) = ((valP l (2 * i + 2) i).toNat : Int) := by
  rw [pair_step]; unfold pairB; rw [byt_toNat]; omega
theorem rUnhex_any (l : List UInt8) (w : World) : Calls Tryd.prog 22 #[.string ⟨l.toArray⟩] w (UnhPost w l) := by
  have hsz : (ByteArray.mk l.toArray).size = l.length := rfl
  by_cases h64 : l.length = 64
  · go_enter Tryd.func22, Tryd.ntmps22
    go_wp2
    go_loopw [5] (fun i wr => ∃ (j : Nat), j ≤ 32 ∧ i = .int .i64 (j : Int) ∧ Hid (∀ k, k < 2 * j → undig (chr l k) < 16) ∧ Blk wr (w.heap.size + 1) 37 (cs8 (unK l (2 * j))) ∧ Blk wr w.heap.size 37 (cs8 (List.replicate 32 0)) ∧ Below w.heap.size w wr) (fun i _ => 32 - (intOf i).toNat)
    case atStart => exact ⟨0, Nat.zero_le _, rfl, fun k hk => absurd hk (by omega), by rw [Nat.mul_zero, unK_zero]; exact Blk.at _ _ _ (by simp), (Blk.at _ _ _ rfl).alloc _, ((Below.refl _ _).alloc (Nat.le_refl _) _).alloc (by simp) _⟩
    case round =>
      obtain ⟨j, hj, rfl, HD, hk1, hk0, hb⟩ := hrel
      by_cases hlt : j < 32
      · have hi0 := fun w => run_chr l (2 * j) (by omega) (2 * (j : Int)) (by omega) w
        have hi1 := fun w => run_chr l (2 * j + 1) (by omega) (2 * (j : Int) + 1) (by omega) w
        have HL := hide h64
        by_cases hu0 : undig (chr l (2 * j)) < 16
        · have HE0 := hide (undI_pos hu0)
          by_cases hu1 : undig (chr l (2 * j + 1)) < 16
          · have HE1 := hide (undI_pos hu1)
            have HD2 : Hid (∀ k, k < 2 * (j + 1) → undig (chr l k) < 16) := fun k hk => by
              by_cases hkj : k = 2 * j
              · subst hkj; exact hu0
              · by_cases hkj2 : k = 2 * j + 1
                · subst hkj2; exact hu1
                · exact HD.out k (by omega)
            have hv := pair_val l j hu0 hu1
            have hN := unK_set l (2 * j) (2 * j + 2) j hlt (by omega) (by omega) (by omega)
            have hc := hk1.cell (j := j) (v := .int .u8 ((valP l (2 * j) j).toNat : Int)) (by simp [cs8, unK_at l (2 * j) j hlt])
            have hfz := hk1.frozen j
            have HK := hide (hk1.set j (.int .u8 ((valP l (2 * j + 2) j).toNat : Int)))
            rw [cs8_set, hN] at HK
            have H0 := hide (hk0.other (h := w.heap.size + 1) (by omega) j (.int .u8 ((valP l (2 * j + 2) j).toNat : Int)))
            have HB := hide (hb.setCell (p := ⟨w.heap.size + 1, j, none⟩) (show w.heap.size ≤ w.heap.size + 1 by omega) (.int .u8 ((valP l (2 * j + 2) j).toNat : Int)))
            have hvl := (valP l (2 * j + 2) j).toNat_lt
            generalize undig (chr l (2 * j)) = d0 at *
            generalize undig (chr l (2 * j + 1)) = d1 at *
            have hd0 : decide ((d0 : Int) < 0) = false := by simp
            have hd1 : decide ((d1 : Int) < 0) = false := by simp
            clear hk1 hk0 hb hN
            go_wp2_with (go_at_call 36; refine (digit_any _ _).mono ?_; (first | rw [HE0.out] | rw [HE1.out]); rintro e' w' ⟨rfl, rfl⟩)
            go_roundw
            case rel => exact ⟨j + 1, by omega, by go_num, HD2, HK, H0, HB⟩
            case measure => simp [intOf]; omega
          · have HE1 := hide (undI_neg hu1)
            have HB := hide (unhB_bad l h64 (2 * j + 1) (by omega) hu1)
            generalize undig (chr l (2 * j)) = d0 at *
            have hd0 : decide ((d0 : Int) < 0) = false := by simp
            go_wp2_with (first
              | (go_at_call 36; refine (digit_any _ _).mono ?_; (first | rw [HE0.out] | rw [HE1.out]); rintro e' w' ⟨rfl, rfl⟩)
              | (refine wpList_storeB rfl 37 (.tmp 2) (.tmp 33) rfl _ (cs8 (List.replicate 32 0)) rfl rfl 37 _ hk0 32 size32b zeros_b rfl (cs8_one _) ?_))
            refine ret_cell2 rfl Tryd.underlying37 size32b rfl rfl (hk0.row _) zeros_b rfl ?_
            exact UnhPost.bad HB.out (below_setRow hb (Nat.le_refl _) _)
        · have HE0 := hide (undI_neg hu0)
          have HB := hide (unhB_bad l h64 (2 * j) (by omega) hu0)
          generalize hq : undI (chr l (2 * j + 1)) = d1
          have HQ := hide hq
          clear hq
          go_wp2_with (first
            | (go_at_call 36; refine (digit_any _ _).mono ?_; (first | rw [HE0.out] | rw [HQ.out]); rintro e' w' ⟨rfl, rfl⟩)
            | (refine wpList_storeB rfl 37 (.tmp 2) (.tmp 33) rfl _ (cs8 (List.replicate 32 0)) rfl rfl 37 _ hk0 32 size32b zeros_b rfl (cs8_one _) ?_))
          refine ret_cell2 rfl Tryd.underlying37 size32b rfl rfl (hk0.row _) zeros_b rfl ?_
          exact UnhPost.bad HB.out (below_setRow hb (Nat.le_refl _) _)
      · obtain rfl : j = 32 := by omega
        have HB := hide (unhB_ok l h64 HD.out)
        have hlk : (cs8 (unK l 64)).length = 32 := by rw [cs8_len, unK_len]
        go_wp2_with (first
          | (refine wpList_loadB rfl 37 (.tmp 4) rfl _ rfl 37 (cs8 (unK l 64)) hk1 32 5 Tryd.underlying37 size32b hlk ?_)
          | (refine wpList_storeB rfl 37 (.tmp 2) (.tmp 41) rfl _ (cs8 (unK l 64)) rfl rfl 37 _ hk0 32 size32b hlk rfl (cs8_one _) ?_))
        refine ret_cell2 rfl Tryd.underlying37 size32b rfl rfl (hk0.row _) hlk rfl ?_
        exact UnhPost.ok HB.out (below_setRow hb (Nat.le_refl _) _)
  · have hd : ((l.length : Int) != 64) = true := by rw [bne_iff_ne]; omega
    have HB := hide (unhB_len l h64)
    go_enter Tryd.func22, Tryd.ntmps22
    go_wp2_with (first
      | (refine wpList_loadB rfl 37 (.tmp 4) rfl (w.heap.size + 1) rfl 37 (cs8 (List.replicate 32 0)) (Blk.at _ _ _ (by simp)) 32 5 Tryd.underlying37 size32b zeros_b ?_)
      | (refine wpList_storeB rfl 37 (.tmp 2) (.tmp 11) rfl w.heap.size (cs8 (List.replicate 32 0)) rfl rfl 37 (cs8 (List.replicate 32 0)) ((Blk.at _ _ _ rfl).alloc _) 32 size32b zeros_b rfl (cs8_one _) ?_))
    refine ret_cell2 rfl Tryd.underlying37 size32b rfl rfl (Blk.row ((Blk.at (cs := cs8 (List.replicate 32 0)) _ _ rfl).alloc _) _) zeros_b rfl ?_
    exact UnhPost.bad HB.out (below_setRow (((Below.refl _ _).alloc (Nat.le_refl _) _).alloc (by simp) _) (Nat.le_refl _) _)
end Go.Proofs.YtfbboiagfjkgcaaDoor
