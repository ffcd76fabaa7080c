/-
  Contracts of package sha: Step.
-/
import Derived.Test.YtdikiabjkmigdaaGreatDoorSPkg2
namespace Go.Proofs.YtdikiabjkmigdaaGreatDoor
set_option maxRecDepth 20000
open Go.RowKit
set_option maxHeartbeats 800000

/-- The package's table of constants holds its numbers, below block B. -/
def KT (B : Nat) (w : World) : Prop := 0 < B ∧ ∀ i : Nat, i < 64 → w.cell? ⟨0, i, none⟩ = some (.int .u32 ((nth kL i).toNat : Int))
theorem KT.keep {B B' : Nat} {w w' : World} (h : KT B w) (hb : Below B' w w') (hB : B ≤ B') : KT B w' :=
  ⟨h.1, fun i hi => (hb.cell (p := ⟨0, i, none⟩) (Nat.lt_of_lt_of_le h.1 hB)).trans (h.2 i hi)⟩
theorem KT.more {B B' : Nat} {w : World} (h : KT B w) (hB : B ≤ B') : KT B' w := ⟨Nat.lt_of_lt_of_le h.1 hB, h.2⟩
def stS (s : List UInt32) (l : List UInt8) : List UInt32 := if l.length = 64 then stepL s l else List.replicate 8 0
def stE (l : List UInt8) : Int := if l.length = 64 then 0 else 1
theorem stS_len {s : List UInt32} (h : s.length = 8) (l : List UInt8) : (stS s l).length = 8 := by
  unfold stS; split
  · exact stepL_len h l
  · simp
def StepPost (w : World) (s : List UInt32) (l : List UInt8) (e : Ending) (w' : World) : Prop := e = .returned (.tuple #[.agg (cs32 (stS s l)).toArray, .int .i64 (stE l)]) ∧ Below w.heap.size w w'


theorem eight_cells {w : World} {g : Nat} {t : TypeId} {a b c d e f i h : UInt32} (hb : Blk w g t (cs32 [a, b, c, d, e, f, i, h])) :
    w.cell? ⟨g, 0, none⟩ = some (.int .u32 (a.toNat : Int)) ∧ w.cell? ⟨g, 1, none⟩ = some (.int .u32 (b.toNat : Int)) ∧ w.cell? ⟨g, 2, none⟩ = some (.int .u32 (c.toNat : Int)) ∧ w.cell? ⟨g, 3, none⟩ = some (.int .u32 (d.toNat : Int)) ∧
    w.cell? ⟨g, 4, none⟩ = some (.int .u32 (e.toNat : Int)) ∧ w.cell? ⟨g, 5, none⟩ = some (.int .u32 (f.toNat : Int)) ∧ w.cell? ⟨g, 6, none⟩ = some (.int .u32 (i.toNat : Int)) ∧ w.cell? ⟨g, 7, none⟩ = some (.int .u32 (h.toNat : Int)) :=
  ⟨hb.cell rfl, hb.cell rfl, hb.cell rfl, hb.cell rfl, hb.cell rfl, hb.cell rfl, hb.cell rfl, hb.cell rfl⟩
theorem Step_bad (A : Option Addr) (n c : Nat) (l : List UInt8) (s : List UInt32) (w : World) (hn : l.length = n) (h64 : n ≠ 64) :
    Calls Tryz.prog 118 #[.agg (cs32 s).toArray, .slice A n c] w (StepPost w s l) := by
  have hd : ((n : Int) != 64) = true := by rw [bne_iff_ne]; omega
  have HL := hide hn
  clear hn
  go_enter Tryz.func118, Tryz.ntmps118
  go_wp2_with (first
    | (refine wpList_storeB rfl 115 (.tmp 4) (.tmp 12) rfl (w.heap.size + 1) (zeros32 8) rfl rfl 115 (zeros32 8) (Blk.at _ _ _ (by simp)) 8 size8w rfl rfl (by simp [zeros32, Value.oneCell']) ?_))
  refine ret_cell2 rfl Tryz.underlying115 size8w rfl rfl (Blk.row (Blk.at _ _ _ (by simp)) _) rfl rfl ?_
  refine ⟨?_, below_setRow (((Below.refl _ w).alloc (Nat.le_refl _) _).alloc (by simp) _) (by simp) _⟩
  unfold stS stE
  rw [if_neg (by rw [HL.out]; exact h64), if_neg (by rw [HL.out]; exact h64)]
  rfl
theorem Step_ok (B : Nat) (A : Option Addr) (c : Nat) (l : List UInt8) (s : List UInt32) (w : World) (hr : Row w B A 64 c (cs8 l)) (hB : B ≤ w.heap.size) (hs : s.length = 8) (hK : KT B w) :
    Calls Tryz.prog 118 #[.agg (cs32 s).toArray, .slice A 64 c] w (StepPost w s l) := by
  have hsl : (cs32 s).length = 8 := by rw [cs32_len]; exact hs
  go_enter Tryz.func118, Tryz.ntmps118
  go_wp2_with (first
    | (refine wpList_loadB rfl 115 (.tmp 2) rfl w.heap.size rfl 115 (cs32 s) ((Blk.at _ _ _ rfl).alloc _) 8 22 Tryz.underlying115 size8w hsl ?_)
    | (refine wpList_storeB rfl 115 (.tmp 6) (.tmp 13) rfl (w.heap.size + 1 + 1) (cs32 s) rfl rfl 115 (zeros32 8) (Blk.at _ _ _ (by simp)) 8 size8w hsl rfl (cs32_one _) ?_))
  generalize hw : World.setRow _ _ _ = w1
  have hb : Below w.heap.size w w1 := by rw [← hw]; exact below_setRow ((((Below.refl _ w).alloc (Nat.le_refl _) _).alloc (by simp) _).alloc (by simp; omega) _) (by omega) _
  have hb0 : Blk w1 w.heap.size 115 (cs32 s) := by rw [← hw]; exact (((Blk.at _ _ _ rfl).alloc _).alloc _).rowOther (by omega) _
  have hb1 : Blk w1 (w.heap.size + 1) 115 (zeros32 8) := by rw [← hw]; exact ((Blk.at _ _ _ (by simp)).alloc _).rowOther (by omega) _
  have hb2 : Blk w1 (w.heap.size + 1 + 1) 115 (cs32 s) := by rw [← hw]; exact (Blk.at (cs := zeros32 8) _ _ (by simp)).row _
  clear hw
  have hs1 := hb.size
  have hl2 := hb2.lt
  refine (schedule_any B A c l w1 (hr.keep hb hB) (by omega)).mono ?_
  rintro e w2 ⟨rfl, hbw⟩
  replace hb0 := hb0.keep hbw (by omega)
  replace hb1 := hb1.keep hbw (by omega)
  replace hb2 := hb2.keep hbw hl2
  replace hb := hb.trans (hbw.mono hs1)
  clear hbw hl2 hs1
  go_wp2
  go_loopw [16] (fun i wr => ∃ (j : Nat), j ≤ 64 ∧ i = .int .i64 (j : Int) ∧ Blk wr w.heap.size 115 (cs32 s) ∧ Blk wr (w.heap.size + 1) 115 (zeros32 8) ∧ Blk wr (w.heap.size + 1 + 1) 115 (cs32 (rnds kL (schedW l) s j)) ∧ Below w.heap.size w wr) (fun i _ => 64 - (intOf i).toNat)
  case atStart => exact ⟨0, Nat.zero_le _, rfl, hb0, hb1, hb2, hb⟩
  case round =>
    clear hb0 hb1 hb2 hb
    obtain ⟨j, hj, rfl, hb0, hb1, hb2, hb⟩ := hrel
    have hbs := hb.size
    have hl2 := hb2.lt
    by_cases hlt : j < 64
    · have hti := fun w => at64w w (schedW l) (schedW_len l) j (by rw [schedW_len]; exact hlt)
      rw [nth_at] at hti
      have hkc := (hK.keep hb hB).2 j hlt
      have ha := add_w (nth kL j) (nth (schedW l) j)
      have HR : Hid (rnd (rnds kL (schedW l) s j) (aU (nth kL j) (nth (schedW l) j)) = rnds kL (schedW l) s (j + 1)) := rfl
      obtain ⟨a, b, c', d, e, f, g, h, h8⟩ := eight (rnds_len kL (schedW l) hs j)
      rw [h8] at hb2 HR
      obtain ⟨c0, c1, c2, c3, c4, c5, c6, c7⟩ := eight_cells hb2
      clear h8
      go_wp2
      go_still_tail 6, (by kernel_rfl)
      change wpList _ _ _ _ _ wr.drew
      have h0d := hb0.drew
      have h1d := hb1.drew
      have h2d := hb2.drew
      have hbd := hb.drew
      clear hb0 hb1 hb2 hb hkc c0 c1 c2 c3 c4 c5 c6 c7
      generalize hw3 : wr.drew = w3 at h0d h1d h2d hbd ⊢
      have hl3 := h2d.lt
      clear hw3
      go_wp2_with fail
      refine (round_any [a, b, c', d, e, f, g, h] (aU (nth kL j) (nth (schedW l) j)) w3 rfl).mono ?_
      rintro e' w4 ⟨rfl, hbw⟩
      have h0e := h0d.keep hbw (by omega)
      have h1e := h1d.keep hbw (by omega)
      have h2e := h2d.keep hbw hl3
      have hbe := hbd.trans (hbw.mono hbd.size)
      clear h0d h1d h2d hbd hbw
      rw [HR.out]
      have hl : (cs32 (rnds kL (schedW l) s (j + 1))).length = 8 := by rw [cs32_len, rnds_len _ _ hs]
      go_wp2_with (first
        | (refine wpList_storeB rfl 115 (.tmp 6) (.tmp 26) rfl _ (cs32 (rnds kL (schedW l) s (j + 1))) rfl rfl 115 _ h2e 8 size8w hl rfl (cs32_one _) ?_))
      go_roundw
      case rel => exact ⟨j + 1, by omega, by go_num, h0e.rowOther (by omega) _, h1e.rowOther (by omega) _, h2e.row _, below_setRow hbe (by omega) _⟩
      case measure => simp [intOf]; omega
    · obtain rfl : j = 64 := by omega
      have hl : (cs32 (rnds kL (schedW l) s 64)).length = 8 := by rw [cs32_len, rnds_len _ _ hs]
      have hq : stE l = 0 := if_pos (by have := hr.len; rwa [cs8_len] at this)
      have hq2 : stS s l = stepL s l := if_pos (by have := hr.len; rwa [cs8_len] at this)
      have hl4 : (cs32 (stepL s l)).length = 8 := by rw [cs32_len, stepL_len hs]
      go_wp2_with (first
        | (refine wpList_loadB rfl 115 (.tmp 2) rfl _ rfl 115 _ hb0 8 22 Tryz.underlying115 size8w hsl ?_)
        | (refine wpList_loadB rfl 115 (.tmp 6) rfl _ rfl 115 _ hb2 8 22 Tryz.underlying115 size8w hl ?_))
      refine (plus_any s (rnds kL (schedW l) s 64) _ hs (rnds_len _ _ hs _)).mono ?_
      rintro e' w4 ⟨rfl, hbw⟩
      have h1e := hb1.keep hbw (by omega)
      have hbe := hb.trans (hbw.mono hb.size)
      go_wp2_with (first
        | (refine wpList_storeB rfl 115 (.tmp 4) (.tmp 30) rfl _ (cs32 (stepL s l)) rfl rfl 115 _ h1e 8 size8w hl4 rfl (cs32_one _) ?_))
      refine ret_cell2 rfl Tryz.underlying115 size8w rfl rfl (h1e.row _) hl4 rfl ?_
      refine ⟨?_, below_setRow hbe (by omega) _⟩
      rw [hq, hq2]
      rfl
theorem Step_any (B : Nat) (A : Option Addr) (n c : Nat) (l : List UInt8) (s : List UInt32) (w : World) (hr : Row w B A n c (cs8 l)) (hB : B ≤ w.heap.size) (hs : s.length = 8) (hK : KT B w) :
    Calls Tryz.prog 118 #[.agg (cs32 s).toArray, .slice A n c] w (StepPost w s l) := by
  by_cases h : n = 64
  · subst h; exact Step_ok B A c l s w hr hB hs hK
  · exact Step_bad A n c l s w (by have := hr.len; rwa [cs8_len] at this) h
end Go.Proofs.YtdikiabjkmigdaaGreatDoor
