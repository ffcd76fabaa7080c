/-
  Contracts of package mac: Block, masked.
-/
import Derived.Test.YtdikiabjkmigdaaDoorSSum
import Derived.Test.YtdikiabjkmigdaaDoorMMath
import Derived.Laws.CopyOwn
namespace Go.Proofs.YtdikiabjkmigdaaDoor
set_option maxRecDepth 20000
open Go.RowKit
set_option maxHeartbeats 800000

theorem size64b : (Tryd.prog.info? 56).map (·.size) = some 64 := by kernel_rfl
theorem xor_b (a b : UInt8) : bits .xor .u8 (a.toNat : Int) (b.toNat : Int) = ((xB a b).toNat : Int) := by
  rw [u8_xor_nat _ _ a.toNat_lt b.toNat_lt]; unfold xB; rw [UInt8.toNat_xor]
/-- The whole of a block, as a slice. -/
theorem Blk.whole {w : World} {g m : Nat} {t : TypeId} {cs : List Value} (h : Blk w g t cs) (hm : cs.length = m) (hx : m ≤ maxLen) : Row w w.heap.size (some ⟨g, 0, none⟩) m m cs :=
  ⟨hm, Nat.le_refl _, hx, (fun e => by cases e), fun _ => ⟨g, 0, rfl, h.lt, fun j u hu => by rw [Nat.zero_add]; exact h.cell hu⟩⟩
theorem Row.src {w : World} {B n c : Nat} {A : Option Addr} {cs : List Value} (h : Row w B A n c cs) (hp : 0 < cs.length) : ∃ ad, A = some ad ∧ ∀ j v, cs[j]? = some v → w.cell? (ad.add j) = some v := by
  obtain ⟨b, o, rfl, _, hc⟩ := h.cells (by have := h.len; omega)
  exact ⟨_, rfl, fun j v hv => by rw [Addr.add_lit]; exact hc j v hv⟩
theorem splice_blk (k : List UInt8) (n : Nat) : splice (cs8 (nulL n)) 0 (cs8 k) = cs8 (k ++ nulL (n - k.length)) := by
  unfold splice nulL cs8
  simp
/-- A block of 64 bytes is returned. -/
def Ret64 (w : World) (X : List UInt8) (e : Ending) (w' : World) : Prop := e = .returned (.agg (cs8 X).toArray) ∧ Below w.heap.size w w'
theorem Block_any (B : Nat) (A : Option Addr) (n c : Nat) (l : List UInt8) (w : World) (hr : Row w B A n c (cs8 l)) (hB : B ≤ w.heap.size) (hK : KT B w) (hl : n ≤ 1073741824) :
    Calls Tryd.prog 24 #[.slice A n c] w (Ret64 w (blkL l)) := by
  have HL : Hid (l.length = n) := by have := hr.len; rwa [cs8_len] at this
  obtain ⟨X, HX⟩ : ∃ X, Hid (X = blkL l) := ⟨_, rfl⟩
  have hX64 : (cs8 X).length = 64 := by rw [cs8_len, HX.out, blkL_len]
  rw [← HX.out]
  by_cases h64 : n ≤ 64
  · have hd : decide ((64 : Int) < (n : Int)) = false := by simp; omega
    have HS : Hid (splice (cs8 (nulL 64)) 0 (cs8 l) = cs8 X) := by
      show _ = _
      rw [splice_blk l 64, HX.out, blkL_short (by rw [HL.out]; exact h64)]
    have h1 : (cs8 l).length = n := by rw [cs8_len, HL.out]
    go_enter Tryd.func24, Tryd.ntmps24
    go_wp2_with (first
      | (refine wpList_copy_splice rfl (.tmp 14) (.tmp 15) 29 29 rfl 5 Tryd.underlying29 size8 _ _ _ _ _ _ rfl rfl (w.heap.size + 1) 0 (cs8 (nulL 64)) 56 (Blk.at _ _ _ (by simp)) (cs8 l) (by rw [h1]; exact (Nat.min_eq_left h64).symm) (fun hp => ⟨rfl, ((hr.alloc hB _).alloc (by simp; omega) _).src hp⟩) (by rw [h1]; simpa [cs8, nulL] using h64) (cs8_one _) (w.heap.size + 1) _ (Below.refl _ _) (Nat.le_refl _) ?_; intro w2 HG hb2; rw [HS.out] at HG)
      | (refine wpList_loadB rfl 56 (.tmp 3) rfl _ rfl 56 (cs8 X) HG.out 64 5 Tryd.underlying56 size64b hX64 ?_)
      | (refine wpList_storeB rfl 56 (.tmp 2) (.tmp 17) rfl _ (cs8 X) rfl rfl 56 (cs8 (nulL 64)) (((Blk.at _ _ _ rfl).alloc _).keep hb2 (by simp)) 64 size64b hX64 rfl (cs8_one _) ?_))
    refine ret_cell rfl Tryd.underlying56 size64b rfl (Blk.row (((Blk.at _ _ _ rfl).alloc _).keep hb2 (by simp)) _) hX64 rfl ?_
    exact ⟨rfl, below_setRow ((((Below.refl _ _).alloc (Nat.le_refl _) _).alloc (by simp) _).trans (hb2.mono (by simp))) (Nat.le_refl _) _⟩
  · have hd : decide ((64 : Int) < (n : Int)) = true := by simp; omega
    obtain ⟨D, HD⟩ : ∃ D, Hid (D = sumL l) := ⟨_, rfl⟩
    have hD32 : D.length = 32 := by rw [HD.out]; exact sumL_len l
    have hDl : (cs8 D).length = 32 := by rw [cs8_len]; exact hD32
    have HS : Hid (splice (cs8 (nulL 64)) 0 (cs8 D) = cs8 X) := by
      show _ = _
      rw [splice_blk D 64, HX.out, blkL_long (by rw [HL.out]; exact h64), HD.out, sumL_len]
    go_enter Tryd.func24, Tryd.ntmps24
    go_wp2_with fail
    generalize hw : World.alloc (World.alloc w _) _ = w1
    have hb : Below w.heap.size w w1 := by rw [← hw]; exact ((Below.refl _ w).alloc (Nat.le_refl _) _).alloc (by simp) _
    have hb0 : Blk w1 w.heap.size 56 (cs8 (nulL 64)) := by rw [← hw]; exact (Blk.at _ _ _ rfl).alloc _
    have hb1 : Blk w1 (w.heap.size + 1) 56 (cs8 (nulL 64)) := by rw [← hw]; exact Blk.at _ _ _ (by simp)
    clear hw
    have hs1 := hb.size
    have hl1 := hb1.lt
    refine (Sum_any B _ _ _ l w1 (hr.keep hb hB) (by omega) (hK.keep hb hB) hl).mono ?_
    unfold Sum32
    rw [← HD.out]
    rintro e w2 ⟨rfl, hb2⟩
    have hs2 := hb2.size
    have k0 := hb0.keep hb2 (by omega)
    have k1 := hb1.keep hb2 hl1
    have hb02 := hb.trans (hb2.mono hs1)
    clear hb0 hb1 hb2 hb
    go_wp2_with (refine wpList_storeB rfl 42 (.tmp 4) (.tmp 9) rfl w2.heap.size (cs8 D) rfl rfl 42 (cs8 (List.replicate 32 0)) (Blk.at _ _ _ rfl) 32 size32b hDl rfl (cs8_one _) ?_; rw [World.setRow_alloc_new]; have k4 := Blk.new w2 42 (cs8 D); have hb3 := (Below.refl w2.heap.size w2).alloc (Nat.le_refl _) (.cells (cs8 D).toArray 42 (0, 0)); generalize World.alloc w2 _ = w3 at k4 hb3 ⊢)
    have m0 := (k0.keep hb3 (by omega)).drew
    have m1 := (k1.keep hb3 (by omega)).drew
    have m4 := (k4.whole hDl (by unfold maxLen; omega)).of_drew
    have hb03 := (hb02.trans (hb3.mono (by omega))).drew
    have hs3 := hb3.size
    clear hb3 hb02 k0 k1 k4
    go_region_law (refine step_copy_splice rfl (.tmp 10) (.tmp 11) 29 29 rfl 5 Tryd.underlying29 size8 _ _ _ _ _ _ rfl rfl (w.heap.size + 1) 0 (cs8 (nulL 64)) 56 m1 (cs8 D) (by rw [hDl]; rfl) (fun hp => ⟨rfl, m4.src hp⟩) (by rw [hDl]; simp [cs8, nulL]) (cs8_one _) (w.heap.size + 1) _ (Below.refl _ _) (Nat.le_refl _) ?_; intro w4 HG hb4; rw [HS.out] at HG)
    have n0 := m0.keep hb4 (by omega)
    have hb04 := hb03.trans (hb4.mono (by omega))
    go_wp2_with (first
      | (refine wpList_loadB rfl 56 (.tmp 3) rfl _ rfl 56 (cs8 X) HG.out 64 5 Tryd.underlying56 size64b hX64 ?_)
      | (refine wpList_storeB rfl 56 (.tmp 2) (.tmp 13) rfl _ (cs8 X) rfl rfl 56 _ n0 64 size64b hX64 rfl (cs8_one _) ?_))
    refine ret_cell rfl Tryd.underlying56 size64b rfl (n0.row _) hX64 rfl ?_
    exact ⟨rfl, below_setRow hb04 (Nat.le_refl _) _⟩
theorem masked_any (X : List UInt8) (m : UInt8) (M : Int) (hM : M = (m.toNat : Int)) (w : World) (hX : X.length = 64) :
    Calls Tryd.prog 26 #[.agg (cs8 X).toArray, .int .u8 M] w (Ret64 w (mixL m X)) := by
  subst hM
  have hx := xor_b
  have hXl : (cs8 X).length = 64 := by rw [cs8_len]; exact hX
  go_enter Tryd.func26, Tryd.ntmps26
  go_wp2
  go_loopw [5, 6] (fun _ i wr => ∃ j : Nat, j ≤ 64 ∧ i = .int .i64 (j : Int) ∧ Blk wr w.heap.size 56 (cs8 (midL m X j)) ∧ Blk wr (w.heap.size + 1) 56 (cs8 (nulL 64)) ∧ Below w.heap.size w wr) (fun _ i _ => 64 - (intOf i).toNat)
  case atStart => exact ⟨0, Nat.zero_le _, rfl, by rw [midL_zero]; exact (Blk.at _ _ _ rfl).alloc _, Blk.at _ _ _ (by simp), ((Below.refl _ _).alloc (Nat.le_refl _) _).alloc (by simp) _⟩
  case round =>
    obtain ⟨j, hj, rfl, h2, h4, hb⟩ := hrel
    have hs := hb.size
    by_cases hlt : j < 64
    · have hd : decide ((j : Int) < 64) = true := by simp; omega
      have hc := h2.cell (j := j) (v := .int .u8 (X[j].toNat : Int)) (by have := midL_at m X j (by omega); simp [cs8, this])
      have hfz := h2.frozen j
      have HK := hide (h2.set j (.int .u8 ((xB X[j] m).toNat : Int)))
      rw [cs8_set, midL_next m X j (by omega)] at HK
      have HO := hide (h4.other (h := w.heap.size) (by omega) j (.int .u8 ((xB X[j] m).toNat : Int)))
      have HB := hide (hb.setCell (p := ⟨w.heap.size, j, none⟩) (show w.heap.size ≤ w.heap.size by omega) (.int .u8 ((xB X[j] m).toNat : Int)))
      clear h2 h4 hb
      go_wp2
      go_roundw
      case rel => exact ⟨j + 1, by omega, by go_num, HK, HO, HB⟩
      case measure => simp [intOf]; omega
    · obtain rfl : j = 64 := by omega
      have hN := midL_all m X
      rw [hX] at hN
      rw [hN] at h2
      have hl : (cs8 (mixL m X)).length = 64 := by rw [cs8_len, mixL_len, hX]
      go_wp2_with (first
        | (refine wpList_loadB rfl 56 (.tmp 2) rfl _ rfl 56 _ h2 64 5 Tryd.underlying56 size64b hl ?_)
        | (refine wpList_storeB rfl 56 (.tmp 4) (.tmp 16) rfl _ (cs8 (mixL m X)) rfl rfl 56 _ h4 64 size64b hl rfl (cs8_one _) ?_))
      refine ret_cell rfl Tryd.underlying56 size64b rfl (h4.row _) hl rfl ?_
      exact ⟨rfl, below_setRow hb (by omega) _⟩
end Go.Proofs.YtdikiabjkmigdaaDoor
