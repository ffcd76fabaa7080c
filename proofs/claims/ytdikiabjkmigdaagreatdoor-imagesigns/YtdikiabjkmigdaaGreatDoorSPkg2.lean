/-
  Contracts of package sha: schedule.
-/
import Derived.Test.YtdikiabjkmigdaaGreatDoorSPkg
import Derived.StillTailTactics
namespace Go.Proofs.YtdikiabjkmigdaaGreatDoor
set_option maxRecDepth 20000
open Go.RowKit
set_option maxHeartbeats 800000

/-- The words that are being made of a block's first j bytes. -/
def partW (l : List UInt8) (j i : Nat) : UInt32 := beW ((l.drop (4 * i)).take (min 4 (j - 4 * i)))
def W1 (l : List UInt8) (j : Nat) : List UInt32 := (List.range 16).map (partW l j) ++ List.replicate 48 0
theorem W1_len (l : List UInt8) (j : Nat) : (W1 l j).length = 64 := by simp [W1]
theorem W1_at (l : List UInt8) (j q : Nat) (hq : q < 16) : (W1 l j)[q]? = some (partW l j q) := by
  unfold W1
  rw [List.getElem?_append_left (by simp; omega)]
  simp [hq]
theorem partW_zero (l : List UInt8) (i : Nat) : partW l 0 i = 0 := by unfold partW; rw [show min 4 (0 - 4 * i) = 0 by omega]; rfl
theorem W1_zero (l : List UInt8) : W1 l 0 = List.replicate 64 0 := by
  unfold W1
  rw [show partW l 0 = fun _ => 0 from funext (partW_zero l)]
  rfl
theorem beW_snoc (l : List UInt8) (c : UInt8) (h : l.length ≤ 3) : (beW (l ++ [c])).toNat = 256 * (beW l).toNat + c.toNat := by
  unfold beW
  have h1 := leN_lt l.reverse
  have h2 : (256 : Nat) ^ l.reverse.length ≤ 256 ^ 3 := Nat.pow_le_pow_right (by omega) (by simpa using h)
  have h3 := c.toNat_lt
  rw [word_toNat, word_toNat, List.reverse_append, List.reverse_singleton, List.singleton_append, leN]
  omega
theorem beW_small (l : List UInt8) (h : l.length ≤ 3) : (beW l).toNat < 16777216 := by
  unfold beW
  have h1 := leN_lt l.reverse
  have h2 : (256 : Nat) ^ l.reverse.length ≤ 256 ^ 3 := Nat.pow_le_pow_right (by omega) (by simpa using h)
  rw [word_toNat]
  omega
theorem partW_step (l : List UInt8) (j q : Nat) (hl : l.length = 64) (hj : j < l.length) (hq : q = j / 4) : (partW l (j + 1) q).toNat = 256 * (partW l j q).toNat + l[j].toNat := by
  have h1 : min 4 (j + 1 - 4 * q) = j % 4 + 1 := by omega
  have h2 : min 4 (j - 4 * q) = j % 4 := by omega
  unfold partW
  rw [h1, h2, take_step l (4 * q) (j % 4) (by omega)]
  simp only [show 4 * q + j % 4 = j by omega]
  exact beW_snoc _ _ (by simp; omega)
theorem partW_small (l : List UInt8) (j q : Nat) (hq : q = j / 4) : (partW l j q).toNat < 16777216 := by
  unfold partW
  exact beW_small _ (by simp; omega)
theorem partW_other (l : List UInt8) (j q i : Nat) (hq : q = j / 4) (hi : i ≠ q) : partW l (j + 1) i = partW l j i := by
  unfold partW
  rw [show min 4 (j + 1 - 4 * i) = min 4 (j - 4 * i) by omega]
theorem W1_next (l : List UInt8) (j q : Nat) (hj : j < 64) (hq : q = j / 4) : (W1 l j).set q (partW l (j + 1) q) = W1 l (j + 1) := by
  apply List.ext_getElem?
  intro i
  rw [List.getElem?_set]
  by_cases h : q = i
  · subst h
    rw [if_pos rfl, W1_len, if_pos (by omega), W1_at l (j + 1) q (by omega)]
  · rw [if_neg h]
    unfold W1
    by_cases hi : i < 16
    · rw [List.getElem?_append_left (by simpa using hi), List.getElem?_append_left (by simpa using hi)]
      simp [hi, partW_other l j q i hq (by omega)]
    · rw [List.getElem?_append_right (by simpa using hi), List.getElem?_append_right (by simpa using hi)]
      simp
theorem part_val (l : List UInt8) (j q : Nat) (hl : l.length = 64) (hj : j < l.length) (hq : q = j / 4) : bits .or .u32 (IntKind.u32.wrap ((partW l j q).toNat * 256 : Int)) (IntKind.u32.wrap (l[j].toNat : Int)) = ((partW l (j + 1) q).toNat : Int) := by
  have h1 := partW_small l j q hq
  have h2 := l[j].toNat_lt
  have e : IntKind.u32.wrap ((partW l j q).toNat * 256 : Int) = ((partW l j q).toNat * 2 ^ 8 : Nat) := by simp [IntKind.wrap, IntKind.signed, IntKind.bits]; omega
  have e2 : IntKind.u32.wrap (l[j].toNat : Int) = (l[j].toNat : Int) := by simp [IntKind.wrap, IntKind.signed, IntKind.bits]; omega
  rw [e, e2, u32_or_nat _ _ (by omega) (by omega), partW_step l j q hl hj hq, ← Nat.shiftLeft_eq, ← Nat.shiftLeft_add_eq_or_of_lt (by omega), Nat.shiftLeft_eq]
  omega
theorem W1_end (l : List UInt8) : W1 l 64 = headW l 16 ++ List.replicate 48 0 := by
  unfold W1 headW
  refine congrArg (· ++ _) (List.map_congr_left ?_)
  intro i hi
  have hi16 : i < 16 := by simpa using hi
  unfold partW
  rw [show min 4 (64 - 4 * i) = 4 by omega]
/-- The words that are there before word i. -/
def W2 (l : List UInt8) (i : Nat) : List UInt32 := extW (headW l 16) (i - 16) ++ List.replicate (64 - i) 0
theorem ext_len (l : List UInt8) (i : Nat) (h : 16 ≤ i) : (extW (headW l 16) (i - 16)).length = i := by rw [extW_len, headW_len]; omega
theorem W2_len (l : List UInt8) (i : Nat) (h : 16 ≤ i) (h2 : i ≤ 64) : (W2 l i).length = 64 := by unfold W2; rw [List.length_append, ext_len l i h]; simp; omega
theorem W2_at (l : List UInt8) (i a : Nat) (h : 16 ≤ i) (ha : a < i) : (W2 l i)[a]? = some (nth (extW (headW l 16) (i - 16)) a) := by
  unfold W2 nth
  rw [List.getElem?_append_left (by rw [ext_len l i h]; exact ha), List.getD_eq_getElem?_getD, List.getElem?_eq_getElem (by rw [ext_len l i h]; exact ha)]
  rfl
theorem W2_next (l : List UInt8) (i : Nat) (h : 16 ≤ i) (h2 : i < 64) : (W2 l i).set i (nextW (extW (headW l 16) (i - 16))) = W2 l (i + 1) := by
  unfold W2
  rw [List.set_append_right _ _ (by rw [ext_len l i h]; omega), ext_len l i h, Nat.sub_self, show 64 - i = (64 - (i + 1)) + 1 by omega, List.replicate_succ, show i + 1 - 16 = (i - 16) + 1 by omega, extW, List.append_assoc]
  rfl
theorem next_is (l : List UInt8) (i a16 a15 a7 a2 : Nat) (h : 16 ≤ i) (h16 : a16 + 16 = i) (h15 : a15 + 15 = i) (h7 : a7 + 7 = i) (h2 : a2 + 2 = i) : nextW (extW (headW l 16) (i - 16)) =
    aU (aU (aU (nth (extW (headW l 16) (i - 16)) a16) (g0 (nth (extW (headW l 16) (i - 16)) a15))) (nth (extW (headW l 16) (i - 16)) a7)) (g1 (nth (extW (headW l 16) (i - 16)) a2)) := by
  unfold nextW
  rw [ext_len l i h, show i - 16 = a16 by omega, show i - 15 = a15 by omega, show i - 7 = a7 by omega, show i - 2 = a2 by omega]
theorem shr_w (k : Nat) (a : UInt32) : (a.toNat : Int) / 2 ^ k = ((sU k a).toNat : Int) := by
  rw [sU_toNat]; simp
theorem zeros_cs (n : Nat) : cs32 (List.replicate n 0) = zeros32 n := by simp [cs32, zeros32]
theorem schedule_any (B : Nat) (A : Option Addr) (c : Nat) (l : List UInt8) (w : World) (hr : Row w B A 64 c (cs8 l)) (hB : B ≤ w.heap.size) :
    Calls Tryz.prog 119 #[.slice A 64 c] w fun e w' => e = .returned (.agg (cs32 (schedW l)).toArray) ∧ Below w.heap.size w w' := by
  have hn := hr.len
  rw [cs8_len] at hn
  go_enter Tryz.func119, Tryz.ntmps119
  go_wp2
  go_loopw [10] (fun i wr => ∃ (j : Nat), j ≤ 64 ∧ i = .int .i64 (j : Int) ∧ Blk wr (w.heap.size + 1) 135 (cs32 (W1 l j)) ∧ Blk wr w.heap.size 135 (zeros32 64) ∧ Below w.heap.size w wr) (fun i _ => 64 - (intOf i).toNat)
  case atStart =>
    exact ⟨0, Nat.zero_le _, rfl, by rw [W1_zero, zeros_cs]; exact Blk.at _ _ _ (by simp), (Blk.at _ _ _ rfl).alloc _, ((Below.refl _ _).alloc (Nat.le_refl _) _).alloc (by simp) _⟩
  case round =>
    obtain ⟨j, hj, rfl, hb1, hb0, hb⟩ := hrel
    have hbs := hb.size
    by_cases hlt : j < 64
    · obtain ⟨b, o, u, rfl, _, hu, hcell⟩ := (hr.keep hb hB).get hlt
      rw [cs8_at (show j < l.length by omega)] at hu
      obtain rfl := Option.some.inj hu
      clear hu
      obtain ⟨q, HQ⟩ : ∃ q, Hid (q = j / 4) := ⟨_, rfl⟩
      have hq : IntKind.i64.wrap ((j : Int) / 4) = (q : Int) := by have := HQ.out; simp [IntKind.wrap, IntKind.signed, IntKind.bits]; omega
      have hq15 : q ≤ 15 := by have := HQ.out; omega
      have hqi : (q : Int) < 64 := by omega
      have hc := hb1.cell (j := q) (v := .int .u32 ((partW l j q).toNat : Int)) (by simp [cs32, W1_at l j q (by omega)])
      have HV := hide (part_val l j q hn (by omega) HQ.out)
      have HW := hide (W1_next l j q hlt HQ.out)
      go_wp2
      go_still_tail 14, (by kernel_rfl)
      change wpList _ _ _ _ _ wr.drew
      rw [HV.out]
      have h1d := hb1.drew
      have h0d := hb0.drew
      have hbd := hb.drew
      clear hb1 hb0 hb hc hcell
      generalize wr.drew = w2 at h1d h0d hbd ⊢
      have hc := h1d.cell (j := q) (v := .int .u32 ((partW l j q).toNat : Int)) (by simp [cs32, W1_at l j q (by omega)])
      have hfz := h1d.frozen q
      have HS := hide (h1d.set q (.int .u32 ((partW l (j + 1) q).toNat : Int)))
      have HO := hide (h0d.other (h := w.heap.size + 1) (by omega) q (.int .u32 ((partW l (j + 1) q).toNat : Int)))
      have HB := hide (hbd.setCell (p := ⟨w.heap.size + 1, q, none⟩) (by simp) (.int .u32 ((partW l (j + 1) q).toNat : Int)))
      clear h1d h0d hbd
      go_wp2
      go_roundw
      case rel =>
        rw [cs32_set, HW.out] at HS
        exact ⟨j + 1, by omega, by go_num, HS, HO, HB⟩
      case measure => simp [intOf]; omega
    · have e64 : j = 64 := by omega
      rw [e64, W1_end] at hb1
      clear e64
      have e2 : headW l 16 ++ List.replicate 48 0 = W2 l 16 := rfl
      rw [e2] at hb1
      clear e2
      go_wp2
      go_loopw [5] (fun i wr => ∃ (j : Nat), 16 ≤ j ∧ j ≤ 64 ∧ i = .int .i64 (j : Int) ∧ Blk wr (w.heap.size + 1) 135 (cs32 (W2 l j)) ∧ Blk wr w.heap.size 135 (zeros32 64) ∧ Below w.heap.size w wr) (fun i _ => 64 - (intOf i).toNat)
      case atStart => exact ⟨16, by omega, by omega, rfl, hb1, hb0, hb⟩
      case round =>
        clear hb1 hb0 hb hbs hlt hj
        obtain ⟨i, hi1, hi2, rfl, hb1, hb0, hb⟩ := hrel
        have hbs := hb.size
        by_cases hlt : i < 64
        · obtain ⟨a15, h15⟩ : ∃ a : Nat, (i : Int) - 15 = (a : Int) := ⟨i - 15, by omega⟩
          obtain ⟨a2, h2⟩ : ∃ a : Nat, (i : Int) - 2 = (a : Int) := ⟨i - 2, by omega⟩
          obtain ⟨a16, h16⟩ : ∃ a : Nat, (i : Int) - 16 = (a : Int) := ⟨i - 16, by omega⟩
          obtain ⟨a7, h7⟩ : ∃ a : Nat, (i : Int) - 7 = (a : Int) := ⟨i - 7, by omega⟩
          have HN := hide (next_is l i a16 a15 a7 a2 hi1 (by omega) (by omega) (by omega) (by omega))
          have b15 : (a15 : Int) < 64 := by omega
          have b2 : (a2 : Int) < 64 := by omega
          have b16 : (a16 : Int) < 64 := by omega
          have b7 : (a7 : Int) < 64 := by omega
          have c15 := hb1.cell (j := a15) (v := .int .u32 ((nth (extW (headW l 16) (i - 16)) a15).toNat : Int)) (by simp [cs32, W2_at l i a15 hi1 (by omega)])
          have c2 := hb1.cell (j := a2) (v := .int .u32 ((nth (extW (headW l 16) (i - 16)) a2).toNat : Int)) (by simp [cs32, W2_at l i a2 hi1 (by omega)])
          have c16 := fun n => (hb1.drewN n).cell (j := a16) (v := .int .u32 ((nth (extW (headW l 16) (i - 16)) a16).toNat : Int)) (by simp [cs32, W2_at l i a16 hi1 (by omega)])
          have c7 := fun n => (hb1.drewN n).cell (j := a7) (v := .int .u32 ((nth (extW (headW l 16) (i - 16)) a7).toNat : Int)) (by simp [cs32, W2_at l i a7 hi1 (by omega)])
          have C16 := hide c16
          have C7 := hide c7
          clear c16 c7
          have HW := hide (W2_next l i hi1 hlt)
          rw [HN.out] at HW
          generalize nth (extW (headW l 16) (i - 16)) a15 = x15 at *
          generalize nth (extW (headW l 16) (i - 16)) a2 = x2 at *
          generalize nth (extW (headW l 16) (i - 16)) a16 = x16 at *
          generalize nth (extW (headW l 16) (i - 16)) a7 = x7 at *
          clear HN
          go_wp2
          go_quiet (fail)
          have c16 := C16.out nq
          have c7 := C7.out nq
          have h1d := hb1.drewN nq
          have h0d := hb0.drewN nq
          have hbd := hb.trans (below_drewN _ wr nq)
          clear hb1 hb0 hb c15 c2 C16 C7
          generalize wr.drewN nq = w2 at h1d h0d hbd c16 c7 ⊢
          have ha := add_w
          have hx := xor_w
          have w16 : IntKind.i64.wrap (a16 : Int) = (a16 : Int) := by simp [IntKind.wrap, IntKind.signed, IntKind.bits]; omega
          have w7 : IntKind.i64.wrap (a7 : Int) = (a7 : Int) := by simp [IntKind.wrap, IntKind.signed, IntKind.bits]; omega
          have hs3 : (x15.toNat : Int) / 8 = _ := shr_w 3 x15
          have hs10 : (x2.toNat : Int) / 1024 = _ := shr_w 10 x2
          go_wp2_with (go_at_call 122; refine (rotated_at _ _ _ (by omega) (by omega)).mono ?_; rintro e' w' ⟨rfl, rfl⟩)
          go_still_tail 15, (by kernel_rfl)
          change wpList _ _ _ _ _ w2.drew
          have h1e := h1d.drew
          have h0e := h0d.drew
          have hbe := hbd.drew
          clear h1d h0d hbd c16 c7
          generalize w2.drew = w3 at h1e h0e hbe ⊢
          have hfz := h1e.frozen i
          have HS := hide (h1e.set i (.int .u32 ((aU (aU (aU x16 (g0 x15)) x7) (g1 x2)).toNat : Int)))
          have HO := hide (h0e.other (h := w.heap.size + 1) (by omega) i (.int .u32 ((aU (aU (aU x16 (g0 x15)) x7) (g1 x2)).toNat : Int)))
          have HB := hide (hbe.setCell (p := ⟨w.heap.size + 1, i, none⟩) (by simp) (.int .u32 ((aU (aU (aU x16 (g0 x15)) x7) (g1 x2)).toNat : Int)))
          have hci : (w3.cell? ⟨w.heap.size + 1, i, none⟩) = some (.int .u32 ((W2 l i)[i]'(by rw [W2_len l i hi1 hi2]; exact hlt)).toNat) := h1e.cell (cs32_at _)
          clear h1e h0e hbe
          go_wp2
          go_roundw
          case rel =>
            rw [cs32_set, HW.out] at HS
            exact ⟨i + 1, by omega, by omega, by go_num, HS, HO, HB⟩
          case measure => simp [intOf]; omega
        · obtain rfl : i = 64 := by omega
          have e3 : W2 l 64 = schedW l := List.append_nil _
          rw [e3] at hb1
          have hl : (cs32 (schedW l)).length = 64 := by rw [cs32_len, schedW_len]
          go_wp2_with (first
            | (refine wpList_loadB rfl 135 (.tmp 3) rfl _ rfl 135 _ hb1 64 22 Tryz.underlying135 size64w hl ?_)
            | (refine wpList_storeB rfl 135 (.tmp 2) (.tmp 71) rfl _ (cs32 (schedW l)) rfl rfl 135 _ hb0 64 size64w hl rfl (cs32_one _) ?_))
          refine ret_cell rfl Tryz.underlying135 size64w rfl (hb0.row _) hl rfl ?_
          exact ⟨rfl, below_setRow hb (Nat.le_refl _) _⟩
end Go.Proofs.YtdikiabjkmigdaaGreatDoor
