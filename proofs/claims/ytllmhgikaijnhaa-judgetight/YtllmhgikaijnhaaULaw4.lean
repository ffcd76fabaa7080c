/-
  The walk of the law JudgeTight.
-/
import Derived.Test.YtllmhgikaijnhaaULent
import Derived.Test.YtllmhgikaijnhaaUMath2
namespace Go.Proofs.Ytllmhgikaijnhaa
open Go.RowKit
set_option maxHeartbeats 4000000

/-- The list of the most instructions, from position k on, with bounds. -/
structure MI (l : List (Int × Int)) (k : Nat) (ms : List Int) : Prop where
  m : Most l k ms
  lo : ∀ t, 0 ≤ gd ms t
  hi : ∀ t, t ≤ l.length → gd ms t ≤ (l.length : Int) - t
theorem mi_ini (l : List (Int × Int)) : MI l l.length (List.replicate (l.length + 1) 0) := by
  refine ⟨⟨by simp, gd_rep (by omega) 0, fun j h hj => by omega⟩, fun t => ?_, fun t ht => by rw [gd_rep (by omega)]; omega⟩
  by_cases h : t < l.length + 1
  · rw [gd_rep h]; omega
  · rw [gd_out (by simp; omega)]; omega
theorem mi_step {l : List (Int × Int)} {k : Nat} {ms : List Int} {b : Int} (M : MI l (k + 1) ms) (hk : k < l.length) (hin : ∀ t ∈ tg l[k].1 l[k].2 k, t ≤ l.length) (h1 : ∀ t ∈ tg l[k].1 l[k].2 k, gd ms t ≤ b) (h2 : ∃ t ∈ tg l[k].1 l[k].2 k, b = gd ms t) : MI l k (ms.set k (b + 1)) := by
  have hl := M.m.len
  have hkl : k < ms.length := by omega
  obtain ⟨t0, ht0, hb⟩ := h2
  have hg0 := tg_gt ht0
  have hb0 := M.lo t0
  have hb1 := M.hi t0 (hin t0 ht0)
  refine ⟨⟨by rw [List.length_set]; exact hl, by rw [gd_set hkl, if_neg (by omega)]; exact M.m.last, fun j h hj => ?_⟩, fun t => ?_, fun t ht => ?_⟩
  · by_cases e : j = k
    · subst e
      refine ⟨fun t ht => ?_, t0, ht0, ?_⟩
      · have := tg_gt ht
        have := h1 t ht
        rw [gd_set hkl, gd_set hkl, if_pos rfl, if_neg (by omega)]; omega
      · rw [gd_set hkl, gd_set hkl, if_pos rfl, if_neg (by omega)]; omega
    · obtain ⟨m1, t1, ht1, m2⟩ := M.m.at_ j h (by omega)
      have hg1 := tg_gt ht1
      refine ⟨fun t ht => ?_, t1, ht1, ?_⟩
      · have := tg_gt ht
        rw [gd_set hkl, gd_set hkl, if_neg (by omega), if_neg e]; exact m1 t ht
      · rw [gd_set hkl, gd_set hkl, if_neg e, if_neg (by omega)]; exact m2
  · rw [gd_set hkl]; split
    · omega
    · exact M.lo t
  · rw [gd_set hkl]; split
    · omega
    · exact M.hi t ht
theorem mi_next {l : List (Int × Int)} {k : Nat} {ms : List Int} {y x b : Int} (M : MI l (k + 1) ms) (hu : l[k]? = some (y, x)) (h10 : y ≠ 10) (h11 : y ≠ 11) (hb : gd ms (k + 1) = b) : MI l k (ms.set k (b + 1)) := by
  obtain ⟨hk, e⟩ := get_of hu
  have ht : tg l[k].1 l[k].2 k = [k + 1] := by rw [e]; exact tg_next h10 h11
  subst hb
  exact mi_step M hk (by rw [ht]; simp; omega) (by rw [ht]; simp) (by rw [ht]; simp)
theorem mi_jump {l : List (Int × Int)} {k t : Nat} {ms : List Int} {x b : Int} (M : MI l (k + 1) ms) (hu : l[k]? = some (10, x)) (ht : k + 1 + x.toNat = t) (htl : t ≤ l.length) (hb : gd ms t = b) : MI l k (ms.set k (b + 1)) := by
  obtain ⟨hk, e⟩ := get_of hu
  have ht : tg l[k].1 l[k].2 k = [t] := by rw [e, ← ht]; rfl
  subst hb
  exact mi_step M hk (by rw [ht]; simp; omega) (by rw [ht]; simp) (by rw [ht]; simp)
theorem mi_zero {l : List (Int × Int)} {k t : Nat} {ms : List Int} {x a b c : Int} (M : MI l (k + 1) ms) (hu : l[k]? = some (11, x)) (ht : k + 1 + x.toNat = t) (htl : t ≤ l.length) (ha : gd ms (k + 1) = a) (hb : gd ms t = b) (hc : max a b = c) : MI l k (ms.set k (c + 1)) := by
  obtain ⟨hk, e⟩ := get_of hu
  have ht : tg l[k].1 l[k].2 k = [k + 1, t] := by rw [e, ← ht]; rfl
  subst ha
  subst hb
  refine mi_step M hk (by rw [ht]; simp; omega) (by rw [ht]; simp; omega) ?_
  rw [ht]
  by_cases h : gd ms (k + 1) ≤ gd ms t
  · exact ⟨t, by simp, by omega⟩
  · exact ⟨k + 1, by simp, by omega⟩
theorem tight_walk (A : Option Addr) (n c : Nat) (l : List (Int × Int)) (f : Fr) (w : World) (hr : RowI w w.heap.size A n c l) (_h : True) :
    Calls Try.prog 7 #[.slice A n c, .agg #[.int .i64 f.s, .int .i64 f.o, .int .i64 f.n, .int .i64 f.i, .int .i64 f.u]] w fun e w' => e = .returned (.bool true) ∧ Below w.heap.size w w' := by
  obtain ⟨s1, s2, s3, s4, s5⟩ := f
  simp only
  by_cases hbig : 200 < n
  · have hd : decide ((200 : Int) < (n : Int)) = true := by simp; omega
    go_enter Try.func7, Try.ntmps7
    go_wp2_with (go_at_call 8; refine (known_any _).mono ?_; rintro e wk ⟨rfl, hbk⟩)
    go_ret
    exact ⟨rfl, (below_box w _).trans (hbk.mono (by simp))⟩
  · have hd : decide ((200 : Int) < (n : Int)) = false := by simp; omega
    have hn : n ≤ 200 := by omega
    have HLN := hide hr.len
    obtain ⟨⟨D, F, er, at_⟩, hD⟩ : ∃ r, checkM ⟨s1, s2, s3, s4, s5⟩ l = r := ⟨_, rfl⟩
    have HFN := hide (show er = 0 → ∃ d g, Fin ⟨s1, s2, s3, s4, s5⟩ l d g ∧ F = g n by
      intro h0
      obtain ⟨_, _, _, d, g, FF, _, E⟩ := check_fin (f := ⟨s1, s2, s3, s4, s5⟩) (l := l) (by rw [hD]; exact h0)
      rw [hD, hr.len] at E
      exact ⟨d, g, FF, E⟩)
    have HD := hide hD
    have hmk := makeG (n + 1) (by omega)
    rw [show ((n + 1 : Nat) : Int) = (n : Int) + 1 by omega] at hmk
    clear hD hbig
    go_enter Try.func7, Try.ntmps7
    go_wp2_with fail
    have hb1 := below_box w (.cells #[.int .i64 s1, .int .i64 s2, .int .i64 s3, .int .i64 s4, .int .i64 s5] 24)
    generalize w.alloc (.cells #[.int .i64 s1, .int .i64 s2, .int .i64 s3, .int .i64 s4, .int .i64 s5] 24) = w1 at hb1 ⊢
    have hs1 := hb1.size
    refine (Check_any ⟨s1, s2, s3, s4, s5⟩ w.heap.size A n c l w1 (hr.keep hb1 (Nat.le_refl _)) hs1).mono ?_
    intro e w2 hk
    obtain ⟨rfl, hb2⟩ := checked_is hk HD.out
    have hb02 := hb1.trans (hb2.mono hs1)
    have hs2 := hb02.size
    clear hk hb1 hb2
    by_cases h0 : er = 0
    · subst h0
      go_wp2
      have bX := (Blk.new w2 28 [.int .i64 D, .int .i64 F]).alloc (.cells (csG (List.replicate (n + 1) 0)).toArray 3)
      have bM := Blk.at (w2.alloc (.cells #[.int .i64 D, .int .i64 F] 28)) 3 (csG (List.replicate (n + 1) 0)) (g := w2.heap.size + 1) (by simp)
      have hb3 := (hb02.alloc hs2 (.cells #[.int .i64 D, .int .i64 F] 28)).alloc (by simp; omega) (.cells (csG (List.replicate (n + 1) 0)).toArray 3)
      generalize (w2.alloc (.cells #[.int .i64 D, .int .i64 F] 28)).alloc (.cells (csG (List.replicate (n + 1) 0)).toArray 3) = w3 at bX bM hb3 ⊢
      clear hmk hb02
      obtain ⟨FD, FG, hFin, hFuel⟩ := HFN.out (by trivial)
      have HFuel := hide hFuel
      have HFin := hide hFin
      clear hFuel hFin
      go_loopw [10] (fun i wr => ∃ (j : Nat) (ms : List Int), j ≤ n ∧ i = .int .i64 ((j : Int) - 1) ∧ Blk wr (w2.heap.size + 1) 3 (csG ms) ∧ Blk wr w2.heap.size 28 [.int .i64 D, .int .i64 F] ∧ Below w.heap.size w wr ∧ Hid (MI l j ms)) (fun i _ => ((intOf i) + 1).toNat)
      case atStart => exact ⟨n, _, Nat.le_refl _, rfl, bM, bX, hb3, hide (by have := mi_ini l; rw [HLN.out] at this; exact this)⟩
      case round =>
        clear bX bM hb3
        obtain ⟨j, ms, hj, rfl, bM, bX, hb, HM⟩ := hrel
        have hbs := hb.size
        by_cases hlt : 0 < j
        · obtain ⟨k, rfl⟩ : ∃ k, j = k + 1 := ⟨j - 1, by omega⟩
          rw [show ((k + 1 : Nat) : Int) - 1 = (k : Int) by omega]
          have hkn : k < n := by omega
          have hk1 : k < n + 1 := by omega
          obtain ⟨b, o, y, x, rfl, hbB, hu, hc0, hc1, hx⟩ := (hr.keep hb (Nat.le_refl _)).get hkn
          have HU := hide hu
          have HST := hide (show rgtE y x = 0 ∧ ∀ t ∈ tg y x k, t ≤ n by
            obtain ⟨hk', e⟩ := get_of hu
            have h1 := HFin.out.step k hk'
            rw [e] at h1
            exact ⟨h1.1, fun t ht => by have := (h1.2.2.2.2.2 t ht).1; have := HLN.out; omega⟩)
          have hml : ms.length = n + 1 := by have h1 := HM.out.m.len; have h2 := HLN.out; omega
          have HML := hide hml
          obtain ⟨a, ha⟩ : ∃ a, gd ms (k + 1) = a := ⟨_, rfl⟩
          have ca := bM.cell (csG_at (g := ms) (t := k + 1) (by omega))
          rw [ha] at ca
          have ha0 := HM.out.lo (k + 1)
          have ha1 := HM.out.hi (k + 1) (by have := HLN.out; omega)
          rw [ha] at ha0 ha1
          rw [HLN.out] at ha1
          have HA := hide ha
          have ck := bM.cell (csG_at (g := ms) (t := k) (by omega))
          have fk := bM.frozen k
          have lM := bM.lt
          have lB := Nat.lt_of_lt_of_le hbB hbs
          generalize gd ms k = mk at ck
          clear hu hml ha
          by_cases h10 : y = 10
          · subst h10
            have hx0 : 0 ≤ x ∧ x ≤ 65535 := by have h1 := HST.out.1; simp [rgtE] at h1; exact h1
            obtain ⟨z, rfl⟩ : ∃ z : Nat, x = (z : Int) := ⟨x.toNat, by omega⟩
            have htn : k + 1 + z ≤ n := HST.out.2 (k + 1 + z) (by simp [tg])
            obtain ⟨mt, hmt⟩ : ∃ mt, gd ms (k + 1 + z) = mt := ⟨_, rfl⟩
            have ct := bM.cell (csG_at (g := ms) (t := k + 1 + z) (by have := HML.out; omega))
            rw [hmt] at ct
            have hm0 := HM.out.lo (k + 1 + z)
            have hm1 := HM.out.hi (k + 1 + z) (by have := HLN.out; omega)
            rw [hmt] at hm0 hm1
            rw [HLN.out] at hm1
            have hxb : ¬ (65536 : Int) < (z : Int) := by omega
            have ht0 : ¬ (k : Int) + 1 + (z : Int) < 0 := by omega
            have ht1 : ¬ (n : Int) < (k : Int) + 1 + (z : Int) := by omega
            have ht2 : (k : Int) + 1 + (z : Int) < (n : Int) + 1 := by omega
            have ht3 : k + 1 + z < n + 1 := by omega
            have HN := hide (mi_jump HM.out HU.out (t := k + 1 + z) (by simp) (by have := HLN.out; omega) hmt)
            have hmx := max_run 0 mt
            rw [show max 0 mt = mt by omega] at hmx
            clear hmt
            go_wp2
            go_roundw
            case rel => exact ⟨k, _, by omega, rfl, by have := (bM.set k (.int .i64 (mt + 1))); rw [csG_set] at this; exact this.alloc _, (bX.other (by omega) _ _).alloc _, (below_set hb (by omega) _).alloc (by simp; omega) _, HN⟩
            case measure => simp [intOf]
          · by_cases h11 : y = 11
            · subst h11
              have hx0 : 0 ≤ x ∧ x ≤ 65535 := by have h1 := HST.out.1; simp [rgtE] at h1; exact h1
              obtain ⟨z, rfl⟩ : ∃ z : Nat, x = (z : Int) := ⟨x.toNat, by omega⟩
              have htn : k + 1 + z ≤ n := HST.out.2 (k + 1 + z) (by simp [tg])
              obtain ⟨mt, hmt⟩ : ∃ mt, gd ms (k + 1 + z) = mt := ⟨_, rfl⟩
              have ct := bM.cell (csG_at (g := ms) (t := k + 1 + z) (by have := HML.out; omega))
              rw [hmt] at ct
              have hm0 := HM.out.lo (k + 1 + z)
              have hm1 := HM.out.hi (k + 1 + z) (by have := HLN.out; omega)
              rw [hmt] at hm0 hm1
              rw [HLN.out] at hm1
              have hxb : ¬ (65536 : Int) < (z : Int) := by omega
              have ht0 : ¬ (k : Int) + 1 + (z : Int) < 0 := by omega
              have ht1 : ¬ (n : Int) < (k : Int) + 1 + (z : Int) := by omega
              have ht2 : (k : Int) + 1 + (z : Int) < (n : Int) + 1 := by omega
              have ht3 : k + 1 + z < n + 1 := by omega
              obtain ⟨v, hv, hmx⟩ : ∃ v, max a mt = v ∧ ∀ ts t (W : World), (Builtin.max_ ts t #[.int .i64 a, .int .i64 mt]).run Try.prog W = .ok (.int .i64 v) W := ⟨_, rfl, max_run a mt⟩
              have HN := hide (mi_zero HM.out HU.out (t := k + 1 + z) (by simp) (by have := HLN.out; omega) HA.out hmt hv)
              have hv0 : 0 ≤ v ∧ v ≤ 200 := by omega
              clear hmt hv
              go_wp2
              go_roundw
              case rel => exact ⟨k, _, by omega, rfl, by have := (bM.set k (.int .i64 (v + 1))); rw [csG_set] at this; exact this.alloc _, (bX.other (by omega) _ _).alloc _, (below_set hb (by omega) _).alloc (by simp; omega) _, HN⟩
              case measure => simp [intOf]
            · have e10 : (y == 10) = false := by rw [beq_eq_false_iff_ne]; exact h10
              have e10' : (y != 10) = true := by simpa using h10
              have e11 : (y == 11) = false := by rw [beq_eq_false_iff_ne]; exact h11
              have HN := hide (mi_next HM.out HU.out h10 h11 HA.out)
              clear h10 h11
              by_cases hxb : 65536 < x
              all_goals
                go_wp2
                go_roundw
                case rel => exact ⟨k, _, by omega, rfl, by have := (bM.set k (.int .i64 (a + 1))); rw [csG_set] at this; exact this.alloc _, (bX.other (by omega) _ _).alloc _, (below_set hb (by omega) _).alloc (by simp; omega) _, HN⟩
                case measure => simp [intOf]
        · obtain rfl : j = 0 := by omega
          have hml : ms.length = n + 1 := by have h1 := HM.out.m.len; have h2 := HLN.out; omega
          have hres := most_fuel HFin.out HM.out.m
          rw [HLN.out, ← HFuel.out] at hres
          have c0 := bM.drew.cell (csG_at (g := ms) (t := 0) (by omega))
          rw [hres] at c0
          have cx := bX.drew.cell (j := 1) rfl
          have hbd := hb.drew
          have lM := bM.lt
          have lX := bX.lt
          have hn0 : (0 : Int) < (n : Int) + 1 := by omega
          have hn1 : 0 < n + 1 := by omega
          clear hml hres hlt hj
          go_wp2_with fail
          go_region_held3 (fun W : World => W.cell? ⟨w2.heap.size + 1, 0, none⟩ = some (.int .i64 F) ∧ W.cell? ⟨w2.heap.size, 1, none⟩ = some (.int .i64 F)) (first | exact ⟨c0, cx⟩ | exact ⟨d0, dx⟩)
            ((go_at_call 8; refine (known_any _).mono ?_; rintro e wk ⟨rfl, hbk⟩; have d0 := (hbk.cell (p := ⟨w2.heap.size + 1, 0, none⟩) lM).trans c0; have dx := (hbk.cell (p := ⟨w2.heap.size, 1, none⟩) lX).trans cx))
          go_wp2
          go_ret
          exact ⟨rfl, hbd.trans (hbk.mono hbs)⟩
    · have h0' : (er != 0) = true := by simpa using h0
      clear h0
      go_wp2_with (go_at_call 8; refine (known_any _).mono ?_; rintro e wk ⟨rfl, hbk⟩)
      go_ret
      exact ⟨rfl, (hb02.alloc hs2 _).trans (hbk.mono (by simp; omega))⟩
end Go.Proofs.Ytllmhgikaijnhaa
