/-
  Contracts of package sha: over, laid.
-/
import Derived.Test.YtdikiabjkmigdaaGreatDoorSPkg3
namespace Go.Proofs.YtdikiabjkmigdaaGreatDoor
set_option maxRecDepth 20000
open Go.RowKit
set_option maxHeartbeats 800000

theorem run_storeB {P : Program} {w : World} {g : Nat} {t : TypeId} {old : List Value} (hb : Blk w g t old) (cs : List Value) (hl : old.length = cs.length) (h1 : ∀ v ∈ cs, v.oneCell' = true) :
    (storeCells ⟨g, 0, none⟩ cs).run P w = .ok () (w.setRow g cs.toArray) := by
  have := run_storeCells_from (P := P) g t cs 0 old.toArray w hb (by simp; omega) h1
  simpa using this
theorem over_any (B : Nat) (A : Option Addr) (n c q : Nat) (l : List UInt8) (s : List UInt32) (w : World) (hr : Row w B A n c (cs8 l)) (hB : B ≤ w.heap.size) (hs : s.length = 8) (hK : KT B w) (hn : n = 64 * q) (hl : n ≤ 1099511627776) :
    Calls Tryz.prog 109 #[.agg (cs32 s).toArray, .slice A n c] w fun e w' => e = .returned (.agg (cs32 (overL s l q)).toArray) ∧ Below w.heap.size w w' := by
  have HN := hide hn
  clear hn
  go_enter Tryz.func109, Tryz.ntmps109
  go_wp2
  go_loopw [5] (fun i wr => ∃ (j m : Nat), j ≤ q ∧ i = .int .i64 (m : Int) ∧ Hid (m = 64 * j) ∧ Blk wr w.heap.size 115 (cs32 (overL s l j)) ∧ Blk wr (w.heap.size + 1) 115 (zeros32 8) ∧ Below w.heap.size w wr) (fun i _ => n - (intOf i).toNat)
  case atStart => exact ⟨0, 0, Nat.zero_le _, rfl, rfl, (Blk.at _ _ _ rfl).alloc _, Blk.at _ _ _ (by simp), ((Below.refl _ _).alloc (Nat.le_refl _) _).alloc (by simp) _⟩
  case round =>
    obtain ⟨j, m, hj, rfl, HM, hb0, hb1, hb⟩ := hrel
    have hbs := hb.size
    have hl1 := hb1.lt
    by_cases hlt : j < q
    · have hmn : m + 64 ≤ n := by rw [HM.out, HN.out]; omega
      have hmi : (m : Int) < (n : Int) := by omega
      obtain ⟨p, hp⟩ : ∃ p : Nat, (m : Int) + 64 = (p : Int) := ⟨m + 64, by omega⟩
      have hwp : IntKind.i64.wrap (p : Int) = (p : Int) := by simp [IntKind.wrap, IntKind.signed, IntKind.bits]; omega
      obtain ⟨A2, c2, hsl, hr2⟩ := (hr.keep hb hB).sliced Tryz.underlying29 size8 (lo := m) (hi := p) (by omega) (by omega) (m : Int) (p : Int) rfl rfl
      rw [show p - m = 64 by omega] at hsl hr2
      have HR : Hid (((cs8 l).drop m).take 64 = cs8 ((l.drop (64 * j)).take 64)) := by show _ = _; rw [HM.out]; simp [cs8, List.map_drop, List.map_take]
      rw [HR.out] at hr2
      have hKr := hK.keep hb hB
      have HO : Hid (stS (overL s l j) ((l.drop (64 * j)).take 64) = overL s l (j + 1)) := by
        show _ = _
        unfold stS
        rw [if_pos (by have := hr2.len; rwa [cs8_len] at this), overL]
      have h9 := overL_len hs l j
      have h10 := overL_len hs l (j + 1)
      obtain ⟨a, b, c', d, e, f, g, h, h8⟩ := eight h9
      rw [h8] at hb0 HO
      obtain ⟨c0, c1, c2', c3, c4, c5, c6, c7⟩ := eight_cells hb0
      have hl10 : (cs32 (overL s l (j + 1))).length = 8 := by rw [cs32_len, h10]
      clear h8 h9
      have hrd := hr2.of_drew
      have hKd := hKr.keep (Below.refl B wr).drew (Nat.le_refl _)
      have h0d := hb0.drew
      have h1d := hb1.drew
      have hbd := hb.drew
      clear hb0 hb1 hb hr2 hKr
      go_wp2_with fail
      go_region_with (first
        | (go_at_call 118; refine (Step_ok B A2 c2 _ [a, b, c', d, e, f, g, h] _ hrd (by simp; omega) rfl hKd).mono ?_; rintro e9 w1 ⟨rfl, hbw⟩; rw [HO.out]; have g0 := h0d.keep hbw (by simp; omega); have g1 := h1d.keep hbw (by simp; omega); have hst := run_storeB (P := Tryz.prog) g0 (cs32 (overL s l (j + 1))) (by rw [cs32_len, cs32_len, h10]; rfl) (cs32_one _)))
      have gb := hbd.trans (hbw.mono (by simp; omega))
      clear hst h0d h1d hbd
      go_wp2
      go_roundw
      case rel => exact ⟨j + 1, p, by omega, rfl, by show _ = _; have := HM.out; omega, g0.row _, g1.rowOther (by omega) _, below_setRow gb (by omega) _⟩
      case measure => simp [intOf]; omega
    · obtain rfl : j = q := by omega
      have hmn : ¬ (m : Int) < (n : Int) := by rw [HM.out, HN.out]; omega
      have hl8 : (cs32 (overL s l j)).length = 8 := by rw [cs32_len, overL_len hs]
      go_wp2_with (first
        | (refine wpList_loadB rfl 115 (.tmp 2) rfl _ rfl 115 _ hb0 8 22 Tryz.underlying115 size8w hl8 ?_)
        | (refine wpList_storeB rfl 115 (.tmp 4) (.tmp 22) rfl _ (cs32 (overL s l j)) rfl rfl 115 _ hb1 8 size8w hl8 rfl (cs32_one _) ?_))
      refine ret_cell rfl Tryz.underlying115 size8w rfl (hb1.row _) hl8 rfl ?_
      exact ⟨rfl, below_setRow hb (by omega) _⟩
/-- The bytes of the first words, and of k bytes of the next one, from behind. -/
def laidK (s : List UInt32) (i k : Nat) : List UInt8 := laidL (s.take i) ++ (List.replicate (4 - k) 0 ++ (leB k (nth s i).toNat).reverse) ++ List.replicate (28 - 4 * i) 0
theorem laidK_zero (s : List UInt32) (j : Nat) (hj : j < 8) : laidL (s.take j) ++ List.replicate (32 - 4 * j) 0 = laidK s j 0 := by
  unfold laidK
  rw [leB_zero, List.append_assoc, show 32 - 4 * j = 4 + (28 - 4 * j) by omega, List.reverse_nil, List.append_nil, List.replicate_append_replicate]
theorem laidL_take (s : List UInt32) (j : Nat) (hj : j < s.length) : laidL (s.take (j + 1)) = laidL (s.take j) ++ be4 (nth s j) := by
  rw [List.take_succ_eq_append_getElem hj, laidL, List.flatMap_append, nth_at]; simp [laidL]
theorem laidK_four (s : List UInt32) (j : Nat) (hj : j < s.length) : laidK s j 4 = laidL (s.take (j + 1)) ++ List.replicate (32 - 4 * (j + 1)) 0 := by
  unfold laidK
  rw [laidL_take s j hj, show 32 - 4 * (j + 1) = 28 - 4 * j by omega]
  simp [be4]
theorem laidL_pre (s : List UInt32) (j : Nat) (hj : j ≤ s.length) : (laidL (s.take j)).length = 4 * j := by rw [laidL_len, List.length_take]; omega
theorem laidK_len (s : List UInt32) (j k : Nat) (hs : s.length = 8) (hj : j < 8) (hk : k ≤ 4) : (laidK s j k).length = 32 := by
  unfold laidK; simp [laidL_len, leB_len]; omega
theorem laidK_next (s : List UInt32) (j k p : Nat) (hs : s.length = 8) (hj : j < 8) (hk : k < 4) (hp : p + k + 1 = 4 * (j + 1)) : (laidK s j k).set p (byt ((nth s j).toNat / 256 ^ k)) = laidK s j (k + 1) := by
  have h1 := laidL_pre s j (by omega)
  unfold laidK
  rw [List.set_append_left _ _ (by simp [h1, leB_len]; omega), List.set_append_right _ _ (by omega), h1, List.set_append_left _ _ (by simp; omega), leB_succ, List.reverse_append, List.reverse_singleton, show p - 4 * j = 3 - k by omega, show 4 - k = (3 - k) + 1 by omega, show 4 - (k + 1) = 3 - k by omega, List.replicate_succ', List.set_append_right _ _ (by simp)]
  simp
theorem laidK_at (s : List UInt32) (j k p : Nat) (hs : s.length = 8) (hj : j < 8) (hk : k ≤ 4) (hp : p < 32) : ∃ u : UInt8, (laidK s j k)[p]? = some u := ⟨_, List.getElem?_eq_getElem (by rw [laidK_len s j k hs hj hk]; exact hp)⟩
theorem laid_any (s : List UInt32) (w : World) (hs : s.length = 8) :
    Calls Tryz.prog 111 #[.agg (cs32 s).toArray] w fun e w' => e = .returned (.agg (cs8 (laidL s)).toArray) ∧ Below w.heap.size w w' := by
  have hsl : (cs32 s).length = 8 := by rw [cs32_len]; exact hs
  go_enter Tryz.func111, Tryz.ntmps111
  go_wp2_with (refine wpList_loadB rfl 115 (.tmp 1) rfl w.heap.size rfl 115 (cs32 s) (((Blk.at _ _ _ rfl).alloc _).alloc _) 8 22 Tryz.underlying115 size8w hsl ?_)
  go_loopw [8] (fun i wr => ∃ (j : Nat), j ≤ 8 ∧ i = .int .i64 (j : Int) ∧ Blk wr (w.heap.size + 1 + 1) 49 (cs8 (laidL (s.take j) ++ List.replicate (32 - 4 * j) 0)) ∧ Blk wr (w.heap.size + 1) 49 (cs8 (List.replicate 32 0)) ∧ Below w.heap.size w wr) (fun i _ => 8 - (intOf i).toNat)
  case atStart => exact ⟨0, Nat.zero_le _, rfl, Blk.at _ _ _ (by simp), (Blk.at _ _ _ (by simp)).alloc _, (((Below.refl _ _).alloc (Nat.le_refl _) _).alloc (by simp) _).alloc (by simp; omega) _⟩
  case round =>
    obtain ⟨j, hj, rfl, hb2, hb1, hb⟩ := hrel
    have hbs := hb.size
    by_cases hlt : j < 8
    · have hti := fun w => at8w w s hs j (by omega)
      rw [nth_at] at hti
      rw [laidK_zero s j hlt] at hb2
      have hdj : decide ((j : Int) < 8) = true := by simp; omega
      generalize wr = w1 at *
      go_wp2
      clear hti
      go_loopw [12] (fun i wr => ∃ (k : Nat), k ≤ 4 ∧ i = .int .i64 (k : Int) ∧ Blk wr (w.heap.size + 1 + 1) 49 (cs8 (laidK s j k)) ∧ Blk wr (w.heap.size + 1) 49 (cs8 (List.replicate 32 0)) ∧ Below w.heap.size w wr) (fun i _ => 4 - (intOf i).toNat)
      case atStart => exact ⟨0, Nat.zero_le _, rfl, hb2, hb1, hb⟩
      case round =>
        clear hb2 hb1 hb
        obtain ⟨k, hk, rfl, hb2, hb1, hb⟩ := hrel
        have hbs := hb.size
        by_cases hk4 : k < 4
        · obtain ⟨p, hp⟩ : ∃ p : Nat, ((j : Int) + 1) * 4 - 1 - (k : Int) = (p : Int) := ⟨4 * j + 3 - k, by omega⟩
          have hp32 : (p : Int) < 32 := by omega
          obtain ⟨u, hu⟩ := laidK_at s j k p hs hlt hk (by omega)
          have hc := hb2.cell (j := p) (v := .int .u8 (u.toNat : Int)) (by simp [cs8, hu])
          have hfz := hb2.frozen p
          have hN := laidK_next s j k p hs hlt hk4 (by omega)
          have hsb := shr_byte (nth s j).toNat k
          have HK := hide (hb2.set p (.int .u8 ((byt ((nth s j).toNat / 256 ^ k)).toNat : Int)))
          rw [cs8_set, hN] at HK
          have HO := hide (hb1.other (h := w.heap.size + 1 + 1) (by omega) p (.int .u8 ((byt ((nth s j).toNat / 256 ^ k)).toNat : Int)))
          have HB := hide (hb.setCell (p := ⟨w.heap.size + 1 + 1, p, none⟩) (show w.heap.size ≤ w.heap.size + 1 + 1 by omega) (.int .u8 ((byt ((nth s j).toNat / 256 ^ k)).toNat : Int)))
          have hxl := (nth s j).toNat_lt
          clear hb2 hb1 hb hu hN
          go_wp2
          go_roundw
          case rel => exact ⟨k + 1, by omega, by go_num, HK, HO, HB⟩
          case measure => simp [intOf]; omega
        · obtain rfl : k = 4 := by omega
          rw [laidK_four s j (by omega)] at hb2
          go_wp2
          go_roundw
          case rel => exact ⟨j + 1, by omega, by go_num, hb2, hb1, hb⟩
          case measure => simp [intOf]; omega
    · obtain rfl : j = 8 := by omega
      have e8 : laidL (s.take 8) ++ List.replicate (32 - 4 * 8) 0 = laidL s := by rw [← hs, List.take_length]; simp [hs]
      rw [e8] at hb2
      have hl : (cs8 (laidL s)).length = 32 := by rw [cs8_len, laidL_len, hs]
      go_wp2_with (first
        | (refine wpList_loadB rfl 49 (.tmp 3) rfl _ rfl 49 _ hb2 32 5 Tryz.underlying49 size32b hl ?_)
        | (refine wpList_storeB rfl 49 (.tmp 2) (.tmp 29) rfl _ (cs8 (laidL s)) rfl rfl 49 _ hb1 32 size32b hl rfl (cs8_one _) ?_))
      refine ret_cell rfl Tryz.underlying49 size32b rfl (hb1.row _) hl rfl ?_
      exact ⟨rfl, below_setRow hb (by omega) _⟩
end Go.Proofs.YtdikiabjkmigdaaGreatDoor
