/-
  Contract of package mac's Open.
-/
import Derived.Test.YtdikiabjkmigdaaGreatDoorSMath
import Derived.Test.YtdikiabjkmigdaaGreatDoorSSum
import Derived.Laws.CopyOwn
import Derived.Deep.RegionHeld3
import Derived.Test.YtdikiabjkmigdaaGreatDoorSKnown
namespace Go.Proofs.YtdikiabjkmigdaaGreatDoor
set_option maxRecDepth 20000

/-- Bytes 0. -/
def nulL (n : Nat) : List UInt8 := List.replicate n 0
theorem nulL_len (n : Nat) : (nulL n).length = n := by simp [nulL]
/-- A key as a block. -/
def blkL (k : List UInt8) : List UInt8 := if k.length ≤ 64 then k ++ nulL (64 - k.length) else sumL k ++ nulL 32
theorem blkL_short {k : List UInt8} (h : k.length ≤ 64) : blkL k = k ++ nulL (64 - k.length) := if_pos h
theorem blkL_long {k : List UInt8} (h : ¬ k.length ≤ 64) : blkL k = sumL k ++ nulL 32 := if_neg h
theorem blkL_len (k : List UInt8) : (blkL k).length = 64 := by
  by_cases h : k.length ≤ 64
  · rw [blkL_short h, List.length_append, nulL_len]; omega
  · rw [blkL_long h, List.length_append, nulL_len, sumL_len]
/-- Each byte put together with one byte. -/
def xB (a b : UInt8) : UInt8 := a ^^^ b
def mixL (c : UInt8) (k : List UInt8) : List UInt8 := k.map fun x => xB x c
theorem mixL_len (c : UInt8) (k : List UInt8) : (mixL c k).length = k.length := by simp [mixL]
theorem mixL_take (c : UInt8) (k : List UInt8) (j : Nat) (h : j < k.length) : mixL c (k.take (j + 1)) = mixL c (k.take j) ++ [xB k[j] c] := by
  rw [List.take_succ_eq_append_getElem h]; unfold mixL; rw [List.map_append]; rfl
/-- A block of which the first j bytes are mixed. -/
def midL (c : UInt8) (k : List UInt8) (j : Nat) : List UInt8 := mixL c (k.take j) ++ k.drop j
theorem midL_zero (c : UInt8) (k : List UInt8) : midL c k 0 = k := by simp [midL, mixL]
theorem midL_all (c : UInt8) (k : List UInt8) : midL c k k.length = mixL c k := by simp [midL]
theorem midL_at (c : UInt8) (k : List UInt8) (j : Nat) (h : j < k.length) : (midL c k j)[j]? = some k[j] := by
  have hl : (mixL c (k.take j)).length = j := by rw [mixL_len, List.length_take]; omega
  unfold midL
  rw [List.getElem?_append_right (by omega), hl, Nat.sub_self, drop_step k j h]; rfl
theorem midL_next (c : UInt8) (k : List UInt8) (j : Nat) (h : j < k.length) : (midL c k j).set j (xB k[j] c) = midL c k (j + 1) := by
  have hl : (mixL c (k.take j)).length = j := by rw [mixL_len, List.length_take]; omega
  unfold midL
  rw [List.set_append_right _ _ (by omega), hl, Nat.sub_self, drop_step k j h, List.set_cons_zero, mixL_take c k j h]
  simp
/-- The tag. -/
def innL (k b : List UInt8) : List UInt8 := sumL (mixL 54 (blkL k) ++ b)
def tagL (k b : List UInt8) : List UInt8 := sumL (mixL 92 (blkL k) ++ innL k b)
theorem innL_len (k b : List UInt8) : (innL k b).length = 32 := sumL_len _
theorem tagL_len (k b : List UInt8) : (tagL k b).length = 32 := sumL_len _
def rgtB (k b t : List UInt8) : Bool := decide (t = tagL k b)
theorem rgtB_len {k b t : List UInt8} (h : t.length ≠ 32) : rgtB k b t = false := by
  unfold rgtB
  rw [decide_eq_false_iff_not]
  intro e
  exact h (by rw [e, tagL_len])
def sealT (k b : List UInt8) : List UInt8 := b ++ tagL k b
theorem sealT_len (k b : List UInt8) : (sealT k b).length = b.length + 32 := by rw [sealT, List.length_append, tagL_len]
/-- What is opened, and the error. -/
def unB (k b : List UInt8) : Bool := rgtB k (b.take (b.length - 32)) (b.drop (b.length - 32))
def unE (k b : List UInt8) : Int := if b.length < 32 then 2 else if unB k b = true then 0 else 6
def unL (k b : List UInt8) : List UInt8 := if unE k b = 0 then b.take (b.length - 32) else []
theorem unE_short {k b : List UInt8} (h : b.length < 32) : unE k b = 2 := if_pos h
theorem unE_ok {k b : List UInt8} (h : ¬ b.length < 32) (hb : unB k b = true) : unE k b = 0 := by rw [unE, if_neg h, if_pos hb]
theorem unE_bad {k b : List UInt8} (h : ¬ b.length < 32) (hb : unB k b = false) : unE k b = 6 := by rw [unE, if_neg h, hb]; rfl
theorem unL_ok {k b : List UInt8} (h : unE k b = 0) : unL k b = b.take (b.length - 32) := if_pos h
theorem unL_bad {k b : List UInt8} (h : unE k b ≠ 0) : unL k b = [] := if_neg h
theorem unB_at {k b : List UInt8} {m : Nat} (h : b.length = m + 32) : unB k b = rgtB k (b.take m) (b.drop m) := by
  unfold unB; rw [h, Nat.add_sub_cancel]
theorem unB_seal (k b : List UInt8) : unB k (sealT k b) = true := by
  rw [unB_at (sealT_len k b)]
  simp [sealT, rgtB]
theorem unE_seal (k b : List UInt8) : unE k (sealT k b) = 0 := unE_ok (by rw [sealT_len]; omega) (unB_seal k b)
theorem unL_seal (k b : List UInt8) : unL k (sealT k b) = b := by
  rw [unL_ok (unE_seal k b), sealT_len, Nat.add_sub_cancel, sealT, List.take_left']
  rfl
/-- Bytes 0 behind a key that is short; the digest of one that is long. -/
theorem blkL_nul {k : List UInt8} {j : Nat} (h : k.length + j ≤ 64) : blkL (k ++ nulL j) = blkL k := by
  rw [blkL_short (by rw [List.length_append, nulL_len]; exact h), blkL_short (by omega), List.length_append, nulL_len, List.append_assoc]
  congr 1
  unfold nulL
  rw [List.replicate_append_replicate]
  congr 1
  omega
theorem blkL_sum {k : List UInt8} (h : ¬ k.length ≤ 64) : blkL (sumL k) = blkL k := by
  rw [blkL_short (by rw [sumL_len]; omega), blkL_long h, sumL_len]
theorem tagL_blk {k k' : List UInt8} (h : blkL k = blkL k') (b : List UInt8) : tagL k b = tagL k' b := by unfold tagL innL; rw [h]
end Go.Proofs.YtdikiabjkmigdaaGreatDoor
namespace Go.Proofs.YtdikiabjkmigdaaGreatDoor
set_option maxRecDepth 20000
open Go.RowKit
set_option maxHeartbeats 800000

theorem size64b : (Tryz.prog.info? 76).map (·.size) = some 64 := by kernel_rfl
theorem xor_b (a b : UInt8) : bits .xor .u8 (a.toNat : Int) (b.toNat : Int) = ((xB a b).toNat : Int) := by
  rw [u8_xor_nat _ _ a.toNat_lt b.toNat_lt]; unfold xB; rw [UInt8.toNat_xor]
/-- The whole of a block, as a slice. -/
theorem Blk.whole {w : World} {g m : Nat} {t : TypeId} {cs : List Value} (h : Blk w g t cs) (hm : cs.length = m) (hx : m ≤ maxLen) : Row w w.heap.size (some ⟨g, 0, none⟩) m m cs :=
  ⟨hm, Nat.le_refl _, hx, (fun e => by cases e), fun _ => ⟨g, 0, rfl, h.lt, fun j u hu => by rw [Nat.zero_add]; exact h.cell hu⟩⟩
theorem Row.src {w : World} {B n c : Nat} {A : Option Addr} {cs : List Value} (h : Row w B A n c cs) (hp : 0 < cs.length) : ∃ ad, A = some ad ∧ ∀ j v, cs[j]? = some v → w.cell? (ad.add j) = some v := by
  obtain ⟨b, o, rfl, _, hc⟩ := h.cells (by have := h.len; omega)
  exact ⟨_, rfl, fun j v hv => by rw [Addr.add_lit]; exact hc j v hv⟩
theorem splice_blk (k : List UInt8) (n : Nat) : splice (cs8 (nulL n)) 0 (cs8 k) = cs8 (k ++ nulL (n - k.length)) := by
  unfold splice nulL cs8
  simp
/-- A block of 64 bytes is returned. -/
def Ret64 (w : World) (X : List UInt8) (e : Ending) (w' : World) : Prop := e = .returned (.agg (cs8 X).toArray) ∧ Below w.heap.size w w'
theorem Block_any (B : Nat) (A : Option Addr) (n c : Nat) (l : List UInt8) (w : World) (hr : Row w B A n c (cs8 l)) (hB : B ≤ w.heap.size) (hK : KT B w) (hl : n ≤ 1073741824) :
    Calls Tryz.prog 50 #[.slice A n c] w (Ret64 w (blkL l)) := by
  have HL : Hid (l.length = n) := by have := hr.len; rwa [cs8_len] at this
  obtain ⟨X, HX⟩ : ∃ X, Hid (X = blkL l) := ⟨_, rfl⟩
  have hX64 : (cs8 X).length = 64 := by rw [cs8_len, HX.out, blkL_len]
  rw [← HX.out]
  by_cases h64 : n ≤ 64
  · have hd : decide ((64 : Int) < (n : Int)) = false := by simp; omega
    have HS : Hid (splice (cs8 (nulL 64)) 0 (cs8 l) = cs8 X) := by
      show _ = _
      rw [splice_blk l 64, HX.out, blkL_short (by rw [HL.out]; exact h64)]
    have h1 : (cs8 l).length = n := by rw [cs8_len, HL.out]
    go_enter Tryz.func50, Tryz.ntmps50
    go_wp2_with (first
      | (refine wpList_copy_splice rfl (.tmp 14) (.tmp 15) 29 29 rfl 5 Tryz.underlying29 size8 _ _ _ _ _ _ rfl rfl (w.heap.size + 1) 0 (cs8 (nulL 64)) 76 (Blk.at _ _ _ (by simp)) (cs8 l) (by rw [h1]; exact (Nat.min_eq_left h64).symm) (fun hp => ⟨rfl, ((hr.alloc hB _).alloc (by simp; omega) _).src hp⟩) (by rw [h1]; simpa [cs8, nulL] using h64) (cs8_one _) (w.heap.size + 1) _ (Below.refl _ _) (Nat.le_refl _) ?_; intro w2 HG hb2; rw [HS.out] at HG)
      | (refine wpList_loadB rfl 76 (.tmp 3) rfl _ rfl 76 (cs8 X) HG.out 64 5 Tryz.underlying76 size64b hX64 ?_)
      | (refine wpList_storeB rfl 76 (.tmp 2) (.tmp 17) rfl _ (cs8 X) rfl rfl 76 (cs8 (nulL 64)) (((Blk.at _ _ _ rfl).alloc _).keep hb2 (by simp)) 64 size64b hX64 rfl (cs8_one _) ?_))
    refine ret_cell rfl Tryz.underlying76 size64b rfl (Blk.row (((Blk.at _ _ _ rfl).alloc _).keep hb2 (by simp)) _) hX64 rfl ?_
    exact ⟨rfl, below_setRow ((((Below.refl _ _).alloc (Nat.le_refl _) _).alloc (by simp) _).trans (hb2.mono (by simp))) (Nat.le_refl _) _⟩
  · have hd : decide ((64 : Int) < (n : Int)) = true := by simp; omega
    obtain ⟨D, HD⟩ : ∃ D, Hid (D = sumL l) := ⟨_, rfl⟩
    have hD32 : D.length = 32 := by rw [HD.out]; exact sumL_len l
    have hDl : (cs8 D).length = 32 := by rw [cs8_len]; exact hD32
    have HS : Hid (splice (cs8 (nulL 64)) 0 (cs8 D) = cs8 X) := by
      show _ = _
      rw [splice_blk D 64, HX.out, blkL_long (by rw [HL.out]; exact h64), HD.out, sumL_len]
    go_enter Tryz.func50, Tryz.ntmps50
    go_wp2_with fail
    generalize hw : World.alloc (World.alloc w _) _ = w1
    have hb : Below w.heap.size w w1 := by rw [← hw]; exact ((Below.refl _ w).alloc (Nat.le_refl _) _).alloc (by simp) _
    have hb0 : Blk w1 w.heap.size 76 (cs8 (nulL 64)) := by rw [← hw]; exact (Blk.at _ _ _ rfl).alloc _
    have hb1 : Blk w1 (w.heap.size + 1) 76 (cs8 (nulL 64)) := by rw [← hw]; exact Blk.at _ _ _ (by simp)
    clear hw
    have hs1 := hb.size
    have hl1 := hb1.lt
    refine (Sum_any B _ _ _ l w1 (hr.keep hb hB) (by omega) (hK.keep hb hB) hl).mono ?_
    unfold Sum32
    rw [← HD.out]
    rintro e w2 ⟨rfl, hb2⟩
    have hs2 := hb2.size
    have k0 := hb0.keep hb2 (by omega)
    have k1 := hb1.keep hb2 hl1
    have hb02 := hb.trans (hb2.mono hs1)
    clear hb0 hb1 hb2 hb
    go_wp2_with (refine wpList_storeB rfl 49 (.tmp 4) (.tmp 9) rfl w2.heap.size (cs8 D) rfl rfl 49 (cs8 (List.replicate 32 0)) (Blk.at _ _ _ rfl) 32 size32b hDl rfl (cs8_one _) ?_; rw [World.setRow_alloc_new]; have k4 := Blk.new w2 49 (cs8 D); have hb3 := (Below.refl w2.heap.size w2).alloc (Nat.le_refl _) (.cells (cs8 D).toArray 49 (0, 0)); generalize World.alloc w2 _ = w3 at k4 hb3 ⊢)
    have m0 := (k0.keep hb3 (by omega)).drew
    have m1 := (k1.keep hb3 (by omega)).drew
    have m4 := (k4.whole hDl (by unfold maxLen; omega)).of_drew
    have hb03 := (hb02.trans (hb3.mono (by omega))).drew
    have hs3 := hb3.size
    clear hb3 hb02 k0 k1 k4
    go_region_law (refine step_copy_splice rfl (.tmp 10) (.tmp 11) 29 29 rfl 5 Tryz.underlying29 size8 _ _ _ _ _ _ rfl rfl (w.heap.size + 1) 0 (cs8 (nulL 64)) 76 m1 (cs8 D) (by rw [hDl]; rfl) (fun hp => ⟨rfl, m4.src hp⟩) (by rw [hDl]; simp [cs8, nulL]) (cs8_one _) (w.heap.size + 1) _ (Below.refl _ _) (Nat.le_refl _) ?_; intro w4 HG hb4; rw [HS.out] at HG)
    have n0 := m0.keep hb4 (by omega)
    have hb04 := hb03.trans (hb4.mono (by omega))
    go_wp2_with (first
      | (refine wpList_loadB rfl 76 (.tmp 3) rfl _ rfl 76 (cs8 X) HG.out 64 5 Tryz.underlying76 size64b hX64 ?_)
      | (refine wpList_storeB rfl 76 (.tmp 2) (.tmp 13) rfl _ (cs8 X) rfl rfl 76 _ n0 64 size64b hX64 rfl (cs8_one _) ?_))
    refine ret_cell rfl Tryz.underlying76 size64b rfl (n0.row _) hX64 rfl ?_
    exact ⟨rfl, below_setRow hb04 (Nat.le_refl _) _⟩
theorem masked_any (X : List UInt8) (m : UInt8) (M : Int) (hM : M = (m.toNat : Int)) (w : World) (hX : X.length = 64) :
    Calls Tryz.prog 52 #[.agg (cs8 X).toArray, .int .u8 M] w (Ret64 w (mixL m X)) := by
  subst hM
  have hx := xor_b
  have hXl : (cs8 X).length = 64 := by rw [cs8_len]; exact hX
  go_enter Tryz.func52, Tryz.ntmps52
  go_wp2
  go_loopw [5, 6] (fun _ i wr => ∃ j : Nat, j ≤ 64 ∧ i = .int .i64 (j : Int) ∧ Blk wr w.heap.size 76 (cs8 (midL m X j)) ∧ Blk wr (w.heap.size + 1) 76 (cs8 (nulL 64)) ∧ Below w.heap.size w wr) (fun _ i _ => 64 - (intOf i).toNat)
  case atStart => exact ⟨0, Nat.zero_le _, rfl, by rw [midL_zero]; exact (Blk.at _ _ _ rfl).alloc _, Blk.at _ _ _ (by simp), ((Below.refl _ _).alloc (Nat.le_refl _) _).alloc (by simp) _⟩
  case round =>
    obtain ⟨j, hj, rfl, h2, h4, hb⟩ := hrel
    have hs := hb.size
    by_cases hlt : j < 64
    · have hd : decide ((j : Int) < 64) = true := by simp; omega
      have hc := h2.cell (j := j) (v := .int .u8 (X[j].toNat : Int)) (by have := midL_at m X j (by omega); simp [cs8, this])
      have hfz := h2.frozen j
      have HK := hide (h2.set j (.int .u8 ((xB X[j] m).toNat : Int)))
      rw [cs8_set, midL_next m X j (by omega)] at HK
      have HO := hide (h4.other (h := w.heap.size) (by omega) j (.int .u8 ((xB X[j] m).toNat : Int)))
      have HB := hide (hb.setCell (p := ⟨w.heap.size, j, none⟩) (show w.heap.size ≤ w.heap.size by omega) (.int .u8 ((xB X[j] m).toNat : Int)))
      clear h2 h4 hb
      go_wp2
      go_roundw
      case rel => exact ⟨j + 1, by omega, by go_num, HK, HO, HB⟩
      case measure => simp [intOf]; omega
    · obtain rfl : j = 64 := by omega
      have hN := midL_all m X
      rw [hX] at hN
      rw [hN] at h2
      have hl : (cs8 (mixL m X)).length = 64 := by rw [cs8_len, mixL_len, hX]
      go_wp2_with (first
        | (refine wpList_loadB rfl 76 (.tmp 2) rfl _ rfl 76 _ h2 64 5 Tryz.underlying76 size64b hl ?_)
        | (refine wpList_storeB rfl 76 (.tmp 4) (.tmp 16) rfl _ (cs8 (mixL m X)) rfl rfl 76 _ h4 64 size64b hl rfl (cs8_one _) ?_))
      refine ret_cell rfl Tryz.underlying76 size64b rfl (h4.row _) hl rfl ?_
      exact ⟨rfl, below_setRow hb (by omega) _⟩
end Go.Proofs.YtdikiabjkmigdaaGreatDoor
namespace Go.Proofs.YtdikiabjkmigdaaGreatDoor
set_option maxRecDepth 20000
open Go.RowKit
set_option maxHeartbeats 1600000

theorem Blk.range {w : World} {g : Nat} {t : TypeId} {cs : List Value} (h : Blk w g t cs) : w.rangeAt g 0 cs := fun j v hv => by rw [Nat.zero_add]; exact h.cell hv
theorem digestBehind_any (B : Nat) (A : Option Addr) (n c : Nat) (X l : List UInt8) (w : World) (hr : Row w B A n c (cs8 l)) (hB : B ≤ w.heap.size) (hK : KT B w) (hX : X.length = 64) (hl : n ≤ 536870912) :
    Calls Tryz.prog 51 #[.agg (cs8 X).toArray, .slice A n c] w (Ret64 w (sumL (X ++ l))) := by
  have hXl : (cs8 X).length = 64 := by rw [cs8_len]; exact hX
  have HL : Hid (l.length = n) := by have := hr.len; rwa [cs8_len] at this
  obtain ⟨D, HD⟩ : ∃ D, Hid (D = sumL (X ++ l)) := ⟨_, rfl⟩
  have hDl : (cs8 D).length = 32 := by rw [cs8_len, HD.out]; exact sumL_len _
  rw [← HD.out]
  go_enter Tryz.func51, Tryz.ntmps51
  go_wp2_with fail
  generalize hw : World.alloc (World.alloc w _) _ = w1
  have hb : Below w.heap.size w w1 := by rw [← hw]; exact ((Below.refl _ w).alloc (Nat.le_refl _) _).alloc (by simp) _
  have h2 : Blk w1 w.heap.size 76 (cs8 X) := by rw [← hw]; exact (Blk.at _ _ _ rfl).alloc _
  have h4 : Blk w1 (w.heap.size + 1) 49 (cs8 (nulL 32)) := by rw [← hw]; exact Blk.at _ _ _ (by simp)
  have hsz : w.heap.size + 1 + 1 = w1.heap.size := by rw [← hw]; simp
  clear hw
  rw [hsz]
  have hs1 := hb.size
  have hl4 := h4.lt
  have hb1 := hb.alloc hs1 (.cells #[.slice (some ⟨w.heap.size, 0, none⟩) 64 64, .slice A n c] 29)
  refine (Concat_two (w1.heap.size + 1) _ (some ⟨w.heap.size, 0, none⟩) A 64 n 64 c X l _ (row_lit _ _ _ _ 2 rfl (by unfold maxLen; omega) _ rfl) (((h2.whole hXl (by unfold maxLen; omega)).alloc (Nat.le_refl _) _).more (by omega)) ((hr.keep hb1 hB).more (by omega)) (by simp) (by omega) (by omega) (by omega)).mono ?_
  rintro e w2 ⟨A7, n7, c7, rfl, ho7, hb7⟩
  have hn7 : n7 ≤ 1073741824 := by have h1 := own8_len ho7; rw [List.length_append, hX, HL.out] at h1; omega
  have k4 := (h4.alloc (.cells #[.slice (some ⟨w.heap.size, 0, none⟩) 64 64, .slice A n c] 29)).keep hb7 (by simp; omega)
  have hb2 := hb1.trans (hb7.mono (by simp; omega))
  have hs2 := hb2.size
  have hl42 := k4.lt
  have hr7 := Row.of_own ho7
  clear ho7 hb7 hb1 h4 h2 hb
  go_wp2_with fail
  refine (Sum_any w2.heap.size _ _ _ (X ++ l) w2 hr7 (Nat.le_refl _) ((hK.keep hb2 hB).more (by omega)) hn7).mono ?_
  unfold Sum32
  rw [← HD.out]
  rintro e w3 ⟨rfl, hb3⟩
  have m4 := k4.keep hb3 hl42
  go_wp2_with (refine wpList_storeB rfl 49 (.tmp 4) (.tmp 9) rfl _ (cs8 D) rfl rfl 49 _ m4 32 size32b hDl rfl (cs8_one _) ?_)
  refine ret_cell rfl Tryz.underlying49 size32b rfl (m4.row _) hDl rfl ?_
  exact ⟨rfl, below_setRow (hb2.trans (hb3.mono hs2)) (by omega) _⟩
theorem run_whole32 (g : Nat) (W : World) : (Instr.sliceAt 49 (.pointer (some ⟨g, 0, none⟩)) none none none).run Tryz.prog W = .ok (.slice (some ⟨g, 0, none⟩) 32 32) W := by go_simp
theorem Tag_any (B : Nat) (Ak : Option Addr) (nk ck : Nat) (k : List UInt8) (A : Option Addr) (n c : Nat) (l : List UInt8) (w : World) (hk : Row w B Ak nk ck (cs8 k)) (hr : Row w B A n c (cs8 l)) (hB : B ≤ w.heap.size) (hK : KT B w) (hnk : nk ≤ 1073741824) (hl : n ≤ 536870912) :
    Calls Tryz.prog 27 #[.slice Ak nk ck, .slice A n c] w (Ret64 w (tagL k l)) := by
  obtain ⟨X, HX⟩ : ∃ X, Hid (X = blkL k) := ⟨_, rfl⟩
  have hX64 : X.length = 64 := by rw [HX.out]; exact blkL_len k
  have hXl : (cs8 X).length = 64 := by rw [cs8_len]; exact hX64
  obtain ⟨I, HI⟩ : ∃ I, Hid (I = sumL (mixL 54 X ++ l)) := ⟨_, rfl⟩
  have hI32 : I.length = 32 := by rw [HI.out]; exact sumL_len _
  have hIl : (cs8 I).length = 32 := by rw [cs8_len]; exact hI32
  obtain ⟨D, HD⟩ : ∃ D, Hid (D = sumL (mixL 92 X ++ I)) := ⟨_, rfl⟩
  have hDl : (cs8 D).length = 32 := by rw [cs8_len, HD.out]; exact sumL_len _
  have hT : tagL k l = D := by rw [HD.out, HI.out, HX.out]; rfl
  rw [hT]
  have HT := hide hT
  clear hT
  go_enter Tryz.func27, Tryz.ntmps27
  go_wp2_with fail
  generalize hw : World.alloc _ _ = w1
  have hb1 : Below w.heap.size w w1 := by rw [← hw]; exact (Below.refl _ w).alloc (Nat.le_refl _) _
  have h4 : Blk w1 w.heap.size 49 (cs8 (nulL 32)) := by rw [← hw]; exact Blk.at _ _ _ rfl
  clear hw
  have hs1 := hb1.size
  have hl4 := h4.lt
  refine (Block_any B Ak nk ck k w1 (hk.keep hb1 hB) (by omega) (hK.keep hb1 hB) hnk).mono ?_
  rw [← HX.out]
  rintro e w2 ⟨rfl, hb2⟩
  have hb02 := hb1.trans (hb2.mono hs1)
  have h42 := h4.keep hb2 hl4
  clear hb1 hb2 h4
  have hs2 := hb02.size
  have hl42 := h42.lt
  go_wp2_with (first
    | (refine wpList_storeB rfl 76 (.tmp 5) (.tmp 8) rfl w2.heap.size (cs8 X) rfl rfl 76 (cs8 (nulL 64)) (Blk.at _ _ _ rfl) 64 size64b hXl rfl (cs8_one _) ?_; rw [World.setRow_alloc_new]; have h53 := Blk.new w2 76 (cs8 X); have hb3 := (Below.refl w2.heap.size w2).alloc (Nat.le_refl _) (.cells (cs8 X).toArray 76 (0, 0)); generalize World.alloc w2 _ = w3 at h53 hb3 ⊢)
    | (refine wpList_loadB rfl 76 (.tmp 5) rfl _ rfl 76 (cs8 X) h53 64 5 Tryz.underlying76 size64b hXl ?_))
  have h43 := h42.keep hb3 hl42
  have hb03 := hb02.trans (hb3.mono hs2)
  have hs3 := hb03.size
  have hl53 := h53.lt
  clear hb3 hb02 h42
  refine (masked_any X 54 _ rfl w3 hX64).mono ?_
  rintro e w4 ⟨rfl, hb4⟩
  have h44 := h43.keep hb4 (by omega)
  have h54 := h53.keep hb4 hl53
  have hb04 := hb03.trans (hb4.mono hs3)
  have hs4 := hb04.size
  have hl54 := h54.lt
  clear hb4 hb03 h43 h53
  go_wp2_with fail
  refine (digestBehind_any B A n c (mixL 54 X) l w4 (hr.keep hb04 hB) (by omega) (hK.keep hb04 hB) (by rw [mixL_len]; exact hX64) hl).mono ?_
  rw [← HI.out]
  rintro e w5 ⟨rfl, hb5⟩
  have h45 := h44.keep hb5 (by omega)
  have h55 := h54.keep hb5 hl54
  have hb05 := hb04.trans (hb5.mono hs4)
  have hs5 := hb05.size
  have hl55 := h55.lt
  clear hb5 hb04 h44 h54
  go_wp2_with (refine wpList_storeB rfl 49 (.tmp 6) (.tmp 12) rfl w5.heap.size (cs8 I) rfl rfl 49 (cs8 (nulL 32)) (Blk.at _ _ _ rfl) 32 size32b hIl rfl (cs8_one _) ?_; rw [World.setRow_alloc_new]; have h66 := Blk.new w5 49 (cs8 I); have hb6 := (Below.refl w5.heap.size w5).alloc (Nat.le_refl _) (.cells (cs8 I).toArray 49 (0, 0)); generalize World.alloc w5 _ = w6 at h66 hb6 ⊢)
  have h46 := (h45.keep hb6 (by omega)).drew
  have h56 := (h55.keep hb6 hl55).drew
  have h66' := h66.drew
  have hb06 := (hb05.trans (hb6.mono hs5)).drew
  clear hb6 hb05 h45 h55 h66
  have hs6 := hb06.size
  have hs56 : w5.heap.size < w6.heap.size := h66'.lt
  have hl56 := hide h56.lt
  have hl66 := hide h66'.lt
  have hu := Tryz.underlying76
  have hiX : (Tryz.prog.info? 76).map (·.size) = some (cs8 X).length := by rw [hXl]; exact size64b
  refine wp_region_held_drew (S := fun w' => w'.rangeAt w2.heap.size 0 (cs8 X)) (by kernel_rfl) h56.range (fun hS0 => ?_)
  refine wpAnyH_take (i := 0) rfl (by kernel_rfl) (by kernel_rfl) (by kernel_rfl) (fun _ _ _ h => h) (yieldsIf_load_mid (by rfl) _ _ rfl _ _ rfl (cs8 X) _ (fun _ h => h) hu rfl hiX) (by assumption) ?_
  simp only [List.getElem_toArray, List.getElem_cons_zero, Act.put, List.setIfInBounds_toArray, List.set_cons_zero, List.set_cons_succ]
  refine wpAnyH_take (i := 2) (v := .slice (some ⟨w5.heap.size, 0, none⟩) 32 32) rfl (by kernel_rfl) (by kernel_rfl) (by kernel_rfl) (fun _ _ _ h => h) (Or.inl ⟨by rfl, fun w _ => by go_simp⟩) (by assumption) ?_
  simp only [List.getElem_toArray, List.getElem_cons_zero, List.getElem_cons_succ, Act.put, List.setIfInBounds_toArray, List.set_cons_zero, List.set_cons_succ]
  refine wpAnyH_ready (rs := [1]) (by kernel_rfl) (by simp) ?_
  refine AllReadyH.cons rfl (fun K hKK => ?_) AllReadyH.nil
  go_simp
  refine (masked_any X 92 _ rfl _ hX64).mono ?_
  rintro e w7 ⟨rfl, hb7⟩
  have h47 := h46.keep hb7 (by simp; omega)
  have h57 := h56.keep hb7 hl56.out
  have h67 := h66'.keep hb7 hl66.out
  have hb07 := hb06.trans (hb7.mono hs6)
  have hs7 := hb07.size
  clear hb7 hb06 h46 h56 h66'
  refine hKK.out _ _ (h57.range) (fun hS1 => ?_)
  clear hKK
  refine wpAnyH_ready (rs := [3]) (by kernel_rfl) (by simp) ?_
  refine AllReadyH.cons rfl (fun K hKK => ?_) AllReadyH.nil
  go_simp
  refine (digestBehind_any w7.heap.size (some ⟨w5.heap.size, 0, none⟩) 32 32 (mixL 92 X) I w7 (h67.whole hIl (by unfold maxLen; omega)) (Nat.le_refl _) ((hK.keep hb07 hB).more (by omega)) (by rw [mixL_len]; exact hX64) (by omega)).mono ?_
  rw [← HD.out]
  rintro e w8 ⟨rfl, hb8⟩
  have h48 := h47.keep hb8 h47.lt
  have h58 := h57.keep hb8 h57.lt
  have hb08 := hb07.trans (hb8.mono hs7)
  clear hb8 hb07 h47 h57 h67
  have hst := run_storeB (P := Tryz.prog) h48 (cs8 D) (by rw [hDl]; rfl) (cs8_one _)
  refine hKK.out _ _ (h58.range) (fun hS3 => ?_)
  clear hKK
  refine wpAnyH_ready (rs := [4]) (by kernel_rfl) (by simp) ?_
  refine AllReadyH.cons rfl (fun K hKK => ?_) AllReadyH.nil
  go_simp
  refine hKK.out _ _ ((h58.rowOther (by omega) _).range) (fun hS4 => ?_)
  clear hKK
  refine wpAnyH_done (by kernel_rfl) ?_ _
  go_wp2
  refine ret_cell rfl Tryz.underlying49 size32b rfl (h48.row _) hDl rfl ?_
  exact ⟨rfl, below_setRow hb08 (Nat.le_refl _) _⟩
end Go.Proofs.YtdikiabjkmigdaaGreatDoor
namespace Go.Proofs.YtdikiabjkmigdaaGreatDoor
set_option maxRecDepth 20000
open Go.RowKit
set_option maxHeartbeats 1600000

theorem eq_items2 {P : Program} (d : Nat) (e : TypeId) (he : P.underlying e = some (.int .u8)) (X Y : List UInt8) (w : World) : ∀ is : List Nat, (∀ i, i ∈ is → i < X.length ∧ i < Y.length) →
    (Op.eqItems (d + 1) e 1 (cs8 X).toArray (cs8 Y).toArray is).run P w = .ok (is.all fun i => X[i]? == Y[i]?) w
  | [], _ => by simp [Op.eqItems]
  | i :: is, h => by
    obtain ⟨hx, hy⟩ := h i (by simp)
    have hagg : (isAgg e).run P w = .ok false w := by
      unfold isAgg
      rw [Sem.run_bind, run_underlying he w]
      simp
    have hp : (part e (cs8 X).toArray (i * 1)).run P w = .ok (.int .u8 (X[i].toNat : Int)) w := by simp [part, hagg, cs8_at hx, Result.andThen]
    have hp2 : (part e (cs8 Y).toArray (i * 1)).run P w = .ok (.int .u8 (Y[i].toNat : Int)) w := by simp [part, hagg, cs8_at hy, Result.andThen]
    have heq := run_equalIn_int (P := P) w d e .u8 .u8 (X[i].toNat : Int) (Y[i].toNat : Int) he
    have ih := eq_items2 d e he X Y w is (fun j hj => h j (by simp [hj]))
    have hb : ((X[i].toNat : Int) == (Y[i].toNat : Int)) = (X[i]? == Y[i]?) := by
      rw [List.getElem?_eq_getElem hx, List.getElem?_eq_getElem hy, Bool.eq_iff_iff]
      simp only [beq_iff_eq, Option.some.injEq]
      rw [← UInt8.toNat_inj]
      omega
    simp only [Op.eqItems, Sem.run_bind, hp, hp2, Result.andThen_ok, heq, List.all_cons, ← hb]
    cases hc : ((X[i].toNat : Int) == (Y[i].toNat : Int)) <;> simp [ih]
theorem all_range {X Y : List UInt8} {n : Nat} (hx : X.length = n) (hy : Y.length = n) : ((List.range n).all fun i => X[i]? == Y[i]?) = decide (X = Y) := by
  rw [Bool.eq_iff_iff, List.all_eq_true, decide_eq_true_iff]
  constructor
  · intro h
    apply List.ext_getElem?
    intro i
    by_cases hi : i < n
    · simpa using h i (by simpa using hi)
    · rw [List.getElem?_eq_none (by omega), List.getElem?_eq_none (by omega)]
  · rintro rfl i _
    simp
theorem eq32_any (X Y : List UInt8) (hx : X.length = 32) (hy : Y.length = 32) (b : Bool) (hb : b = decide (X = Y)) (w : World) : (Op.equalIn 10000 49 (.agg (cs8 X).toArray) (.agg (cs8 Y).toArray)).run Tryz.prog w = .ok b w := by
  obtain ⟨i, hi, -⟩ := info_parts info8
  subst hb
  rw [run_equalIn_array w 9999 _ _ Tryz.underlying49 hi, show Tryz.prog.cellsOf 5 = 1 by kernel_rfl, eq_items2 9998 _ Tryz.underlying5 X Y w _ (fun j hj => ⟨by rw [hx]; simpa using hj, by rw [hy]; simpa using hj⟩), all_range hx hy]
theorem eq64b (X : List UInt8) (h : X.length = 64) (w : World) : (Op.equalIn 10000 76 (.agg (cs8 X).toArray) (.agg (cs8 X).toArray)).run Tryz.prog w = .ok true w := by
  obtain ⟨i, hi, -⟩ := info_parts info8
  rw [run_equalIn_array w 9999 _ _ Tryz.underlying76 hi, show Tryz.prog.cellsOf 5 = 1 by kernel_rfl]
  exact eq_items 9998 _ .u8 Tryz.underlying5 _ w _ (fun j hj => ⟨_, cs8_at (by rw [h]; simpa using hj)⟩)
def RetB (w : World) (b : Bool) (e : Ending) (w' : World) : Prop := e = .returned (.bool b) ∧ Below w.heap.size w w'
theorem splice_all (X : List UInt8) (n : Nat) (h : X.length = n) : splice (cs8 (nulL n)) 0 (cs8 X) = cs8 X := by
  rw [splice_blk X n, h, Nat.sub_self]
  simp [nulL]
theorem Right_any (B : Nat) (Ak : Option Addr) (nk ck : Nat) (k : List UInt8) (A : Option Addr) (n c : Nat) (l : List UInt8) (At : Option Addr) (nt ct : Nat) (t : List UInt8) (w : World) (hk : Row w B Ak nk ck (cs8 k)) (hr : Row w B A n c (cs8 l)) (ht : Row w B At nt ct (cs8 t)) (hB : B ≤ w.heap.size) (hK : KT B w) (hnk : nk ≤ 1073741824) (hl : n ≤ 536870912) :
    Calls Tryz.prog 32 #[.slice Ak nk ck, .slice A n c, .slice At nt ct] w (RetB w (rgtB k l t)) := by
  have htn : t.length = nt := by have := ht.len; rwa [cs8_len] at this
  by_cases h32 : nt = 32
  · subst h32
    obtain ⟨T, HT⟩ : ∃ T, Hid (T = tagL k l) := ⟨_, rfl⟩
    have hT32 : T.length = 32 := by rw [HT.out]; exact tagL_len k l
    obtain ⟨b, HB⟩ : ∃ b, Hid (b = rgtB k l t) := ⟨_, rfl⟩
    have hq := eq32_any t T htn hT32 b (by rw [HB.out, HT.out]; rfl)
    have htl : (cs8 t).length = 32 := by rw [cs8_len]; exact htn
    have HS := hide (splice_all t 32 htn)
    rw [← HB.out]
    clear htn hT32
    go_enter Tryz.func32, Tryz.ntmps32
    go_wp2_with (refine wpList_copy_splice rfl (.tmp 11) (.tmp 12) 29 29 rfl 5 Tryz.underlying29 size8 _ _ _ _ _ _ rfl rfl w.heap.size 0 (cs8 (nulL 32)) 49 (Blk.at _ _ _ (by simp)) (cs8 t) (by rw [htl]; rfl) (fun hp => ⟨rfl, (ht.alloc hB _).src hp⟩) (by rw [htl]; simp [cs8, nulL]) (cs8_one _) w.heap.size w ((Below.refl _ _).alloc (Nat.le_refl _) _) (Nat.le_refl _) ?_; intro w2 HG hb2; rw [HS.out] at HG)
    have h7 : Blk w2 w.heap.size 49 (cs8 t) := HG.out
    have h7d := h7.drew
    have hb2d := hb2.drew
    have hs2 := hb2d.size
    have hl7 := hide h7d.lt
    clear HG hb2 h7
    have hu := Tryz.underlying49
    have hiX : (Tryz.prog.info? 49).map (·.size) = some (cs8 t).length := by rw [htl]; exact size32b
    refine wp_region_held_drew (S := fun w' => w'.rangeAt w.heap.size 0 (cs8 t)) (by kernel_rfl) h7d.range (fun hS0 => ?_)
    refine wpAnyH_take (i := 0) rfl (by kernel_rfl) (by kernel_rfl) (by kernel_rfl) (fun _ _ _ h => h) (yieldsIf_load_mid (by rfl) _ _ rfl _ _ rfl (cs8 t) _ (fun _ h => h) hu rfl hiX) (by assumption) ?_
    simp only [List.getElem_toArray, List.getElem_cons_zero, Act.put, List.setIfInBounds_toArray, List.set_cons_zero, List.set_cons_succ]
    refine wpAnyH_take (i := 1) (v := .slice Ak nk ck) rfl (by kernel_rfl) (by kernel_rfl) (by kernel_rfl) (fun _ _ _ h => h) (Or.inl ⟨by rfl, fun w _ => by go_simp⟩) (by assumption) ?_
    simp only [List.getElem_toArray, List.getElem_cons_zero, List.getElem_cons_succ, Act.put, List.setIfInBounds_toArray, List.set_cons_zero, List.set_cons_succ]
    refine wpAnyH_take (i := 2) (v := .slice A n c) rfl (by kernel_rfl) (by kernel_rfl) (by kernel_rfl) (fun _ _ _ h => h) (Or.inl ⟨by rfl, fun w _ => by go_simp⟩) (by assumption) ?_
    simp only [List.getElem_toArray, List.getElem_cons_zero, List.getElem_cons_succ, Act.put, List.setIfInBounds_toArray, List.set_cons_zero, List.set_cons_succ]
    refine wpAnyH_ready (rs := [3]) (by kernel_rfl) (by simp) ?_
    refine AllReadyH.cons rfl (fun K hKK => ?_) AllReadyH.nil
    go_simp
    refine (Tag_any B Ak nk ck k A n c l _ (hk.keep hb2d hB) (hr.keep hb2d hB) (by omega) (hK.keep hb2d hB) hnk hl).mono ?_
    rw [← HT.out]
    rintro e w3 ⟨rfl, hb3⟩
    have h73 := h7d.keep hb3 hl7.out
    have hb03 := hb2d.trans (hb3.mono hs2)
    refine hKK.out _ _ (h73.range) (fun hS3 => ?_)
    clear hKK
    refine wpAnyH_take (i := 4) (v := .bool b) rfl (by kernel_rfl) (by kernel_rfl) (by kernel_rfl) (fun _ _ _ h => h) (Or.inl ⟨by rfl, fun w _ => by go_simp⟩) (by assumption) ?_
    simp only [List.getElem_toArray, List.getElem_cons_zero, List.getElem_cons_succ, Act.put, List.setIfInBounds_toArray, List.set_cons_zero, List.set_cons_succ]
    refine wpAnyH_take (i := 5) (v := .bool b) rfl (by kernel_rfl) (by kernel_rfl) (by kernel_rfl) (fun _ _ _ h => h) (Or.inl ⟨by rfl, fun w _ => by go_simp⟩) (by assumption) ?_
    simp only [List.getElem_toArray, List.getElem_cons_zero, List.getElem_cons_succ, Act.put, List.setIfInBounds_toArray, List.set_cons_zero, List.set_cons_succ]
    refine wpAnyH_done (by kernel_rfl) ?_ _
    go_wp2
    go_ret
    exact ⟨rfl, hb03⟩
  · have hd : ((nt : Int) != 32) = true := by simp; omega
    have HB := hide (rgtB_len (k := k) (b := l) (show t.length ≠ 32 by omega))
    go_enter Tryz.func32, Tryz.ntmps32
    go_wp2
    go_ret
    exact ⟨by rw [HB.out]; rfl, Below.refl _ _⟩
theorem Seal_any (B : Nat) (Ak : Option Addr) (nk ck : Nat) (k : List UInt8) (A : Option Addr) (n c : Nat) (l : List UInt8) (w : World) (hk : Row w B Ak nk ck (cs8 k)) (hr : Row w B A n c (cs8 l)) (hB : B ≤ w.heap.size) (hK : KT B w) (hnk : nk ≤ 1073741824) (hl : n ≤ 536870912) :
    Calls Tryz.prog 14 #[.slice Ak nk ck, .slice A n c] w (LayPost w.heap.size w (sealT k l)) := by
  obtain ⟨T, HT⟩ : ∃ T, Hid (T = tagL k l) := ⟨_, rfl⟩
  have hTl : (cs8 T).length = 32 := by rw [cs8_len, HT.out]; exact tagL_len k l
  have HS : Hid (sealT k l = l ++ T) := by show _ = _; rw [HT.out]; rfl
  rw [HS.out]
  go_enter Tryz.func14, Tryz.ntmps14
  go_wp2_with fail
  refine (Tag_any B Ak nk ck k A n c l _ hk hr hB hK hnk hl).mono ?_
  rw [← HT.out]
  rintro e w1 ⟨rfl, hb1⟩
  have hs1 := hb1.size
  go_wp2_with (refine wpList_storeB rfl 49 (.tmp 5) (.tmp 8) rfl w1.heap.size (cs8 T) rfl rfl 49 (cs8 (nulL 32)) (Blk.at _ _ _ rfl) 32 size32b hTl rfl (cs8_one _) ?_; rw [World.setRow_alloc_new]; have h52 := Blk.new w1 49 (cs8 T); have hb2 := (Below.refl w1.heap.size w1).alloc (Nat.le_refl _) (.cells (cs8 T).toArray 49 (0, 0)); generalize World.alloc w1 _ = w2 at h52 hb2 ⊢)
  have hb02 := hb1.trans (hb2.mono hs1)
  have hs2 := hb02.size
  have hb03 := hb02.alloc hs2 (.cells #[.slice A n c, .slice (some ⟨w1.heap.size, 0, none⟩) 32 32] 29)
  refine (Concat_two (w2.heap.size + 1) _ A (some ⟨w1.heap.size, 0, none⟩) n 32 c 32 l T _ (row_lit _ _ _ _ 2 rfl (by unfold maxLen; omega) _ rfl) ((hr.keep hb03 hB).more (by omega)) (((h52.whole hTl (by unfold maxLen; omega)).alloc (Nat.le_refl _) _).more (by omega)) (by simp) (by omega) (by omega) (by omega)).mono ?_
  rintro e w4 ⟨A7, n7, c7, rfl, ho7, hb7⟩
  go_wp2
  go_ret
  exact ⟨A7, n7, c7, rfl, own_base (by simp; omega) ho7, hb03.trans (hb7.mono (by simp; omega))⟩
theorem eq_nil_in {P : Program} (d : Nat) (t e : TypeId) (h : P.underlying t = some (.slice e)) (A : Option Addr) (n c : Nat) (w : World) : (Op.equalIn (d + 1) t (.slice A n c) (.slice none 0 0)).run P w = .ok A.isNone w := by
  cases A <;> simp [Op.equalIn, run_underlying h]
theorem eq_nil (A : Option Addr) (n c : Nat) (w : World) : (binOp .eql 29 (.slice A n c) (.slice none 0 0)).run Tryz.prog w = .ok (.bool A.isNone) w := by
  have h : (Op.equal 29 (.slice A n c) (.slice none 0 0)).run Tryz.prog w = .ok A.isNone w := eq_nil_in 9999 29 5 Tryz.underlying29 A n c w
  simp only [binOp]
  simp [h]
theorem Clone_any (B : Nat) (A : Option Addr) (n c : Nat) (l : List UInt8) (w : World) (hr : Row w B A n c (cs8 l)) (hB : B ≤ w.heap.size) (hl : n ≤ 1099511627776) :
    Calls Tryz.prog 33 #[.slice A n c] w (LayPost w.heap.size w l) := by
  obtain ⟨i0, hi, hz0, hz1, hz2⟩ := info_parts info8
  have hq := eq_nil A n c w
  rcases A with _ | ad
  · have h0 := hr.nil rfl
    have hc := hr.cap
    obtain rfl : n = 0 := by omega
    subst h0
    obtain rfl : l = [] := List.eq_nil_of_length_eq_zero (by have := hr.len; rwa [cs8_len] at this)
    go_enter Tryz.func33, Tryz.ntmps33
    go_wp2
    go_ret
    exact ⟨_, _, _, rfl, World.ownsRow_nil _ _ _ _, Below.refl _ _⟩
  · go_enter Tryz.func33, Tryz.ntmps33
    go_wp2_with (at_builtin; refine wpList_append_row rfl (.tmp 5) (.tmp 6) 29 rfl w.heap.size 5 i0 _ 1 Tryz.underlying29 hi hz0 hz1 hz2 rfl _ 0 [] rfl (World.ownsRow_lit (size := 1) w #[] 0 (Nat.le_refl _) (Nat.zero_le _) rfl) B _ _ _ _ rfl (hr.alloc hB _) (cs8_one l) (by unfold maxLen; omega) (by omega) w ((Below.refl _ _).alloc (Nat.le_refl _) _) (Nat.le_refl _) ?_; intro A2 c2 w2 ho2 hb2 hg2; simp only [Nat.zero_add, List.nil_append] at ho2)
    go_ret
    exact ⟨A2, _, c2, rfl, by simpa using ho2, hb2⟩
end Go.Proofs.YtdikiabjkmigdaaGreatDoor
namespace Go.Proofs.YtdikiabjkmigdaaGreatDoor
set_option maxRecDepth 20000
open Go.RowKit
set_option maxHeartbeats 1600000

theorem Open_any (B : Nat) (Ak : Option Addr) (nk ck : Nat) (k : List UInt8) (A : Option Addr) (n c : Nat) (l : List UInt8) (w : World) (hk : Row w B Ak nk ck (cs8 k)) (hr : Row w B A n c (cs8 l)) (hB : B ≤ w.heap.size) (hK : KT B w) (hnk : nk ≤ 1073741824) (hl : n ≤ 536870912) :
    Calls Tryz.prog 17 #[.slice Ak nk ck, .slice A n c] w (Gives w (unL k l) (unE k l)) := by
  have hn := hr.len
  rw [cs8_len] at hn
  by_cases h32 : n < 32
  · have HE := hide (unE_short (k := k) (b := l) (by omega))
    have hd : decide ((n : Int) < 32) = true := by simp; omega
    go_enter Tryz.func17, Tryz.ntmps17
    go_wp2
    go_ret2
    exact Gives.none_ (unL_bad (by rw [HE.out]; decide)) HE.out
  · obtain ⟨m, rfl⟩ : ∃ m, n = m + 32 := ⟨n - 32, by omega⟩
    obtain ⟨A9, c9, hsl, hr9⟩ := hr.headed Tryz.underlying29 size8 (hi := m) (by omega) (m : Int) rfl
    obtain ⟨A8, c8, hst, hr8⟩ := hr.tailed Tryz.underlying29 size8 (lo := m) (by omega) (m : Int) rfl
    rw [show (cs8 l).take m = cs8 (l.take m) by simp [cs8]] at hr9
    rw [show (cs8 l).drop m = cs8 (l.drop m) by simp [cs8]] at hr8
    rw [show m + 32 - m = 32 by omega] at hr8 hst
    have h320 : ¬ l.length < 32 := by omega
    obtain ⟨b, HB⟩ : ∃ b, Hid (b = unB k l) := ⟨_, rfl⟩
    have HR : Hid (rgtB k (l.take m) (l.drop m) = b) := by show _ = _; rw [HB.out, unB_at hn]
    have HN := hide hn
    have hd : decide (((m + 32 : Nat) : Int) < 32) = false := by simp; omega
    have hd2 : decide ((m : Int) + 32 < 32) = false := by simp; omega
    have hm : ((m + 32 : Nat) : Int) - 32 = (m : Int) := by omega
    have hm2 : (m : Int) + 32 - 32 = (m : Int) := by omega
    clear hn
    go_enter Tryz.func17, Tryz.ntmps17
    go_wp2
    refine wp_region_held_drew (S := fun _ => True) (by kernel_rfl) trivial (fun hS0 => ?_)
    refine wpAnyH_take (i := 0) (v := .slice Ak nk ck) rfl (by kernel_rfl) (by kernel_rfl) (by kernel_rfl) (fun _ _ _ h => h) (Or.inl ⟨by rfl, fun w _ => by go_simp⟩) (by assumption) ?_
    simp only [List.getElem_toArray, List.getElem_cons_zero, Act.put, List.setIfInBounds_toArray, List.set_cons_zero, List.set_cons_succ]
    refine wpAnyH_take (i := 1) (v := .slice A (m + 32) c) rfl (by kernel_rfl) (by kernel_rfl) (by kernel_rfl) (fun _ _ _ h => h) (Or.inl ⟨by rfl, fun w _ => by go_simp⟩) (by assumption) ?_
    simp only [List.getElem_toArray, List.getElem_cons_zero, List.getElem_cons_succ, Act.put, List.setIfInBounds_toArray, List.set_cons_zero, List.set_cons_succ]
    refine wpAnyH_take (i := 2) (v := .int .i64 (m : Int)) rfl (by kernel_rfl) (by kernel_rfl) (by kernel_rfl) (fun _ _ _ h => h) (Or.inl ⟨by rfl, fun w _ => by go_simp⟩) (by assumption) ?_
    simp only [List.getElem_toArray, List.getElem_cons_zero, List.getElem_cons_succ, Act.put, List.setIfInBounds_toArray, List.set_cons_zero, List.set_cons_succ]
    refine wpAnyH_take (i := 3) (v := .slice A9 m c9) rfl (by kernel_rfl) (by kernel_rfl) (by kernel_rfl) (fun _ _ _ h => h) (Or.inl ⟨by rfl, fun w _ => by go_simp⟩) (by assumption) ?_
    simp only [List.getElem_toArray, List.getElem_cons_zero, List.getElem_cons_succ, Act.put, List.setIfInBounds_toArray, List.set_cons_zero, List.set_cons_succ]
    refine wpAnyH_take (i := 4) (v := .slice A (m + 32) c) rfl (by kernel_rfl) (by kernel_rfl) (by kernel_rfl) (fun _ _ _ h => h) (Or.inl ⟨by rfl, fun w _ => by go_simp⟩) (by assumption) ?_
    simp only [List.getElem_toArray, List.getElem_cons_zero, List.getElem_cons_succ, Act.put, List.setIfInBounds_toArray, List.set_cons_zero, List.set_cons_succ]
    refine wpAnyH_take (i := 5) (v := .int .i64 (m : Int)) rfl (by kernel_rfl) (by kernel_rfl) (by kernel_rfl) (fun _ _ _ h => h) (Or.inl ⟨by rfl, fun w _ => by go_simp⟩) (by assumption) ?_
    simp only [List.getElem_toArray, List.getElem_cons_zero, List.getElem_cons_succ, Act.put, List.setIfInBounds_toArray, List.set_cons_zero, List.set_cons_succ]
    refine wpAnyH_take (i := 6) (v := .slice A8 32 c8) rfl (by kernel_rfl) (by kernel_rfl) (by kernel_rfl) (fun _ _ _ h => h) (Or.inl ⟨by rfl, fun w _ => by go_simp⟩) (by assumption) ?_
    simp only [List.getElem_toArray, List.getElem_cons_zero, List.getElem_cons_succ, Act.put, List.setIfInBounds_toArray, List.set_cons_zero, List.set_cons_succ]
    refine wpAnyH_ready (rs := [7]) (by kernel_rfl) (by simp) ?_
    refine AllReadyH.cons rfl (fun K hKK => ?_) AllReadyH.nil
    go_simp
    refine (Right_any B Ak nk ck k A9 m c9 (l.take m) A8 32 c8 (l.drop m) _ (hk.of_drew) hr9.of_drew hr8.of_drew hB (hK.keep (Below.refl B w).drew (Nat.le_refl _)) hnk (by omega)).mono ?_
    rw [HR.out]
    rintro e w3 ⟨rfl, hb3⟩
    have hb03 : Below w.heap.size w w3 := (Below.refl w.heap.size w).drew.trans hb3
    refine hKK.out _ _ (trivial) (fun hS7 => ?_)
    clear hKK
    refine wpAnyH_take (i := 8) (v := .bool (!b)) rfl (by kernel_rfl) (by kernel_rfl) (by kernel_rfl) (fun _ _ _ h => h) (Or.inl ⟨by rfl, fun w _ => by go_simp⟩) (by assumption) ?_
    simp only [List.getElem_toArray, List.getElem_cons_zero, List.getElem_cons_succ, Act.put, List.setIfInBounds_toArray, List.set_cons_zero, List.set_cons_succ]
    refine wpAnyH_done (by kernel_rfl) ?_ _
    cases b with
    | false =>
      have HE := hide (unE_bad h320 HB.out.symm)
      go_wp2
      go_ret2
      exact Gives.none_at (unL_bad (by rw [HE.out]; decide)) HE.out hb03
    | true =>
      have HE := hide (unE_ok h320 HB.out.symm)
      have HU : Hid (unL k l = l.take m) := by show _ = _; rw [unL_ok HE.out, HN.out, Nat.add_sub_cancel]
      have hs3 := hb03.size
      go_wp2_with fail
      refine (Clone_any B A9 m c9 (l.take m) w3 (hr9.keep hb03 hB) (by omega) (by omega)).mono ?_
      rintro e w4 ⟨A7, n7, c7, rfl, ho7, hb7⟩
      go_wp2
      go_ret2
      exact Gives.of HE.out (by rw [HU.out]; exact own_base hs3 ho7) (hb03.trans (hb7.mono hs3))
end Go.Proofs.YtdikiabjkmigdaaGreatDoor
