/-
  Contract of package sha's Sum.
-/
import Derived.Test.YtdikiabjkmigdaaGreatDoorSOver
import Derived.Test.YtdikiabjkmigdaaGreatDoorSPad
import Derived.Test.YtdikiabjkmigdaaGreatDoorSCat
import Derived.Deep.WholeRow
namespace Go.Proofs.YtdikiabjkmigdaaGreatDoor
set_option maxRecDepth 20000
open Go.RowKit
set_option maxHeartbeats 1600000

theorem Row.tailed {P : Program} {w : World} {B n c : Nat} {A : Option Addr} {xs : List Value} (h : Row w B A n c xs) {t e : TypeId} (ht : P.underlying t = some (.slice e)) (hz : (P.info? e).map (·.size) = some 1) {lo : Nat} (h1 : lo ≤ n)
    (L : Int) (hL : L = lo) :
    ∃ A' c', (∀ W, (Instr.slice t (.slice A n c) (some (.int .i64 L)) none none).run P W = .ok (.slice A' (n - lo) c') W) ∧ Row w B A' (n - lo) c' (xs.drop lo) := by
  subst hL
  have hcut := h.cut h1 (Nat.le_refl _)
  rw [List.take_of_length_le (by rw [List.length_drop, h.len]; exact Nat.le_refl _)] at hcut
  refine ⟨_, _, fun W => ?_, hcut⟩
  have he : P.elem t = e := by simp [Program.elem, ht]
  have hs : ∀ W, (Go.sizeOf e).run P W = .ok 1 W := by
    intro W
    obtain ⟨i, hi, h1⟩ := Option.map_eq_some_iff.1 hz
    simp [sizeOf, typeInfo, hi, h1]
  have hc := h.cap
  rw [run_slice_l W t A n c (by rw [he]; exact ht) .i64 lo (by omega) (by omega), he, hs]
  simp [Result.andThen, Go.sliced]
theorem store_new (W : World) {X : List UInt32} (hX : (cs32 X).length = 8) : (storeCells ⟨W.heap.size, 0, none⟩ (cs32 X)).run Tryz.prog (W.alloc (.cells #[.int .u32 0, .int .u32 0, .int .u32 0, .int .u32 0, .int .u32 0, .int .u32 0, .int .u32 0, .int .u32 0] 115)) = .ok () (W.alloc (.cells (cs32 X).toArray 115)) := by
  have := run_storeB (P := Tryz.prog) (Blk.at W 115 (zeros32 8) rfl) (cs32 X) (by rw [hX]; rfl) (cs32_one X)
  rw [World.setRow_alloc_new] at this
  exact this
theorem keep_new {w3 w4 : World} {t : TypeId} {cs : List Value} (hb : Below (w3.alloc (.cells cs.toArray t (0, 0))).heap.size (w3.alloc (.cells cs.toArray t (0, 0))) w4) : Blk w4 w3.heap.size t cs := (Blk.new w3 t cs).keep hb (by simp)
theorem keep_new' {w3 w4 : World} {t : TypeId} {cs : List Value} (hb : Below (w3.alloc (.cells cs.toArray t (0, 0))).drew.heap.size (w3.alloc (.cells cs.toArray t (0, 0))).drew w4) : Blk w4 w3.heap.size t cs := (Blk.new w3 t cs).drew.keep hb (by simp)
def Sum32 (w : World) (l : List UInt8) (e : Ending) (w' : World) : Prop := e = .returned (.agg (cs8 (sumL l)).toArray) ∧ Below w.heap.size w w'
theorem sum_parts (l : List UInt8) (n m n2 q : Nat) (hl : l.length = n) (hm : m = 64 * (n / 64)) (h2 : n2 = padZ n + 9) (hq : n - m + n2 = 64 * q) :
    laidL (overL (overL firstL (l.take m) (n / 64)) (l.drop m ++ padL n) q) = sumL l := by
  subst hl
  unfold sumL
  rw [sumS_parts l (l.length / 64) (by omega), ← hm, ← h2, hq, Nat.mul_div_cancel_left _ (by omega)]
theorem Sum_any (B : Nat) (A : Option Addr) (n c : Nat) (l : List UInt8) (w : World) (hr : Row w B A n c (cs8 l)) (hB : B ≤ w.heap.size) (hK : KT B w) (hl : n ≤ 1073741824) :
    Calls Tryz.prog 82 #[.slice A n c] w (Sum32 w l) := by
  have hln := hr.len
  rw [cs8_len] at hln
  obtain ⟨r, hrr, HR⟩ : ∃ r : Nat, (n : Int) % 64 = (r : Int) ∧ Hid (r = n % 64) := ⟨n % 64, by omega, rfl⟩
  obtain ⟨m, hm, HM⟩ : ∃ m : Nat, (n : Int) - (r : Int) = (m : Int) ∧ Hid (m = 64 * (n / 64)) := ⟨64 * (n / 64), by have := HR.out; omega, rfl⟩
  have hmn : m ≤ n := by omega
  have HL := hide hln
  clear hln
  go_enter Tryz.func82, Tryz.ntmps82
  go_wp2_with fail
  generalize hw : World.alloc _ _ = w1
  have hb : Below w.heap.size w w1 := by rw [← hw]; exact (Below.refl _ w).alloc (Nat.le_refl _) _
  have hb0 : Blk w1 w.heap.size 49 (cs8 (List.replicate 32 0)) := by rw [← hw]; exact Blk.at _ _ _ rfl
  clear hw
  have hs1 := hb.size
  have hl0 := hb0.lt
  refine (Pad_ok n w1 (by omega)).mono ?_
  rw [pdL_ok n (by omega), pdE_ok n (by omega)]
  rintro e w2 ⟨A2, n2, c2, rfl, ho2, hbw⟩
  replace hb0 := hb0.keep hbw hl0
  replace hb := hb.trans (hbw.mono hs1)
  have hn2 : n2 = padZ n + 9 := by have := own8_len ho2; rw [padL_len] at this; exact this.symm
  have hr2 := Row.of_own ho2
  have hs12 := hbw.size
  clear hbw ho2 hs1
  have hs2 := hb.size
  have HN2 := hide hn2
  have hn2b : n2 ≤ 72 := by rw [hn2]; have := padZ_lt n; omega
  have hn2p : 0 < n2 := by omega
  clear hn2
  go_wp2_with fail
  obtain ⟨A3, c3, hsl3, hr3⟩ := (hr.keep hb hB).headed Tryz.underlying29 size8 (hi := m) hmn (m : Int) rfl
  obtain ⟨A4, c4, hsl4, hr4⟩ := (hr.keep hb hB).tailed Tryz.underlying29 size8 (lo := m) hmn (m : Int) rfl
  rw [show (cs8 l).take m = cs8 (l.take m) by simp [cs8]] at hr3
  rw [show (cs8 l).drop m = cs8 (l.drop m) by simp [cs8]] at hr4
  have hK2 := hK.keep hb hB
  have hB2 : B ≤ w2.heap.size := by omega
  obtain ⟨S, HS⟩ : ∃ S, Hid (S = overL firstL (l.take m) (n / 64)) := ⟨_, rfl⟩
  have hS8 : S.length = 8 := by rw [HS.out]; exact overL_len firstL_len _ _
  have hSl : (cs32 S).length = 8 := by rw [cs32_len]; exact hS8
  have hstA := fun W : World => store_new W hSl
  have hz32 : (zeros32 8).length = (cs32 S).length := by rw [hSl]; rfl
  go_region_with (first
    | (go_at_call 110; refine (First_any _).mono ?_; rintro e w3 ⟨rfl, hb3⟩; have hx3 : Below w2.heap.size w2 w3 := (by first | exact (Below.refl _ w2).drew.trans (hb3.mono (by simp)) | exact (((Below.refl _ w2).drew.alloc (by simp) _).trans (hb3.mono (by simp))) | exact (((Below.refl _ w2).alloc (by simp) _).drew.trans (hb3.mono (by simp)))); (try have hz3 : Blk w3 w2.heap.size 115 (zeros32 8) := (by first | exact keep_new hb3 | exact keep_new' hb3)))
    | (go_at_call 109; refine (over_any B A3 m c3 (n / 64) (l.take m) firstL _ (hr3.keep (B' := w2.heap.size) (by first | exact hx3 | exact hx3.alloc hx3.size _ | exact (hx3.alloc hx3.size _).drew) hB2) (by first | exact Nat.le_trans hB2 hx3.size | (have := hx3.size; simp; omega)) firstL_len (hK2.keep (B' := w2.heap.size) (by first | exact hx3 | exact hx3.alloc hx3.size _ | exact (hx3.alloc hx3.size _).drew) hB2) HM.out (by omega)).mono ?_; rw [← HS.out]; rintro e w4 ⟨rfl, hb4⟩; have hx4 : Below w2.heap.size w2 w4 := (by first | exact hx3.trans (hb4.mono hx3.size) | exact (hx3.alloc hx3.size _).trans (hb4.mono (by have := hx3.size; simp; omega))); (first | (have hz4 : Blk w4 w2.heap.size 115 (zeros32 8) := hz3.keep hb4 hz3.lt; have hst4 := run_storeB (P := Tryz.prog) hz4 (cs32 S) hz32 (cs32_one _)) | (have hz4 : Blk w4 w3.heap.size 115 (zeros32 8) := keep_new hb4; have hst4 := run_storeB (P := Tryz.prog) hz4 (cs32 S) hz32 (cs32_one _)) | skip)))
  all_goals
    clear hr3 hsl3 hstA
    (first
      | (have h6 := Blk.new w4 115 (cs32 S); have hx5 := hx4.alloc hx4.size (.cells (cs32 S).toArray 115 (0, 0)); have hg6 := hx4.size; generalize World.alloc w4 _ = w5 at h6 hx5 ⊢; generalize w4.heap.size = g6 at h6 hg6 ⊢; clear hb4 hx4 hb3 hx3; clear w4 w3)
      | (have h6 := hz4.row (cs32 S); have hx5 := below_setRow (g := w2.heap.size) hx4 (Nat.le_refl _) (cs32 S).toArray; clear hst4 hz4 hz3; generalize World.setRow w4 _ _ = w5 at h6 hx5 ⊢; obtain ⟨g6, hg6e⟩ : ∃ g, g = w2.heap.size := ⟨_, rfl⟩; rw [← hg6e] at h6 ⊢; have hg6 : w2.heap.size ≤ g6 := Nat.le_of_eq hg6e.symm; clear hb4 hx4 hb3 hx3 hg6e; clear w4 w3)
      | (have h6 := hz4.row (cs32 S); have hx5 := below_setRow (g := w3.heap.size) hx4 hx3.size (cs32 S).toArray; have hg6 : w2.heap.size ≤ w3.heap.size := hx3.size; clear hst4 hz4; generalize World.setRow w4 _ _ = w5 at h6 hx5 ⊢; generalize w3.heap.size = g6 at h6 hg6 ⊢; clear hb4 hx4 hb3 hx3; clear w4 w3))
    clear hz32 hSl
    obtain ⟨a, b, c', d, e, f, g, h, h8⟩ := eight hS8
    clear hS8
    have hl6 := h6.lt
    have hs5 := hx5.size
    rw [h8] at h6
    obtain ⟨c0, c1, c2', c3', c4', c5, c6, c7⟩ := eight_cells h6
    have hq : ∃ q, Hid (n - m + n2 = 64 * q) := by
      refine ⟨(n - m + n2) / 64, ?_⟩
      have h1 := pad_whole n
      have h2 := HN2.out
      have h3 := HM.out
      show _ = _
      omega
    obtain ⟨q2, HQ⟩ := hq
    obtain ⟨D, HD⟩ : ∃ D, Hid (D = laidL (overL [a, b, c', d, e, f, g, h] (l.drop m ++ padL n) q2)) := ⟨_, rfl⟩
    have hDl : (cs8 D).length = 32 := by rw [cs8_len, HD.out, laidL_len, overL_len rfl]
    have hD32 : (cs8 (List.replicate 32 0)).length = (cs8 D).length := by rw [hDl]; rfl
    have hlw : w.heap.size < w2.heap.size := by omega
    go_wp2_with fail
    go_region_with (first
      | (go_at_call 28; refine (Concat_two (w5.heap.size + 1) _ A4 A2 (n - m) n2 c4 c2 (l.drop m) (padL n) _ (by first | exact row_lit _ _ _ _ 2 rfl (by unfold maxLen; omega) _ rfl | exact (row_lit _ _ _ _ 2 rfl (by unfold maxLen; omega) _ rfl).of_drew) ((hr4.keep (B' := w2.heap.size) (by first | exact hx5.drew.alloc (by simp; omega) _ | exact (hx5.alloc hs5 _).drew) hB2).more (by omega)) ((hr2.keep (B' := w2.heap.size) (by first | exact hx5.drew.alloc (by simp; omega) _ | exact (hx5.alloc hs5 _).drew) (Nat.le_refl _)).more (by omega)) (by simp) (by omega) (by omega) (by omega)).mono ?_; rintro e' w6 ⟨A7, n7, c7', rfl, ho7, hb7⟩; have hx6 : Below w2.heap.size w2 w6 := (by first | exact (hx5.drew.alloc (by simp; omega) _).trans (hb7.mono (by simp; omega)) | exact (hx5.alloc hs5 _).drew.trans (hb7.mono (by simp; omega))); have k6 : Blk w6 g6 115 (cs32 [a, b, c', d, e, f, g, h]) := (by first | exact (h6.drew.alloc _).keep hb7 (by simp; omega) | exact (h6.alloc _).drew.keep hb7 (by simp; omega)); obtain ⟨d0, d1, d2, d3, d4, d5, d6, d7⟩ := eight_cells k6; have hs6 := hx6.size; have HN7 : Hid (n7 = 64 * q2) := (by have h1 := own8_len ho7; rw [List.length_append, padL_len, List.length_drop, HL.out] at h1; have h2 := HN2.out; have h3 := HQ.out; show _ = _; omega); have hn7 : n7 ≤ 1099511627776 := (by have h1 := HN7.out; have h3 := HQ.out; omega))
      | (go_at_call 109; refine (over_any w6.heap.size A7 n7 c7' q2 (l.drop m ++ padL n) [a, b, c', d, e, f, g, h] _ (Row.of_own ho7) (Nat.le_refl _) rfl ((hK2.keep hx6 hB2).more (by omega)) HN7.out hn7).mono ?_; rintro e' w7 ⟨rfl, hb8⟩; have hx7 : Below w2.heap.size w2 w7 := hx6.trans (hb8.mono hs6))
      | (go_at_call 111; refine (laid_any _ _ (overL_len rfl _ _)).mono ?_; rw [← HD.out]; rintro e' w8 ⟨rfl, hb9⟩; have hx8 : Below w2.heap.size w2 w8 := hx7.trans (hb9.mono hx7.size); have kb8 := hb0.keep hx8 hlw; have hst := run_storeB (P := Tryz.prog) kb8 (cs8 D) hD32 (cs8_one _)))
    all_goals
      go_wp2
      refine ret_cell rfl Tryz.underlying49 size32b rfl (kb8.row _) hDl rfl ?_
      refine ⟨?_, below_setRow (hb.trans (hx8.mono hs2)) (Nat.le_refl _) _⟩
      rw [HD.out, ← h8, HS.out, sum_parts l n m n2 q2 HL.out HM.out HN2.out HQ.out]
end Go.Proofs.YtdikiabjkmigdaaGreatDoor
