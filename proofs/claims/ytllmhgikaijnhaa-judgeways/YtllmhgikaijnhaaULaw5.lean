/-
  The walk of the law JudgeWays.
-/
import Derived.Test.YtllmhgikaijnhaaUFrame
import Derived.Test.YtllmhgikaijnhaaUMath2
namespace Go.Proofs.Ytllmhgikaijnhaa
open Go.RowKit
set_option maxHeartbeats 4000000

theorem ways_step {f : Fr} {l : List (Int × Int)} {d g : Nat → Int} {D F : Int} {j : Nat} {y x : Int} (Fi : Fin f l d g) (T : Top d l.length D) (E : F = g l.length) (hu : l[j]? = some (y, x)) :
    (rgtE y x = 0 ∧ insd f y x ∧ 0 ≤ d j ∧ tak y ≤ d j ∧ d j ≤ 16 ∧ d j - tak y + giv y ≤ D ∧ 0 ≤ g j ∧ g j ≤ 600 + l.length ∧ g j + 1 ≤ F) ∧ ∀ t ∈ tg y x j, j < t ∧ t ≤ l.length ∧ d t = d j - tak y + giv y ∧ g j + 1 ≤ g t := by
  obtain ⟨hj, e⟩ := get_of hu
  have h1 := Fi.step j hj
  rw [e] at h1
  obtain ⟨r1, r2, r3, r4, r5, r6⟩ := h1
  obtain ⟨t0, ht0⟩ := tg_one y x j
  obtain ⟨q1, q2, q3⟩ := r6 t0 ht0
  have hT := ((T D).1 (Int.le_refl _)).2
  have hG := fin_g_le Fi (l.length - t0) t0 (by omega)
  have hgj := gs_nonneg Fi j (by omega)
  have h16 : d j ≤ 16 := by
    by_cases h0 : j = 0
    · subst h0; rw [Fi.d0]; omega
    · obtain ⟨i, hi, _, i2, _⟩ := Fi.src j (by omega) (by omega)
      obtain ⟨_, _, _, _, s5, s6⟩ := Fi.step i hi
      rw [(s6 j i2).2.1]; exact s5
  refine ⟨⟨r1, r2, r3, r4, h16, by rw [← q2]; exact hT t0 q1, hgj.1, by omega, by omega⟩, fun t ht => ?_⟩
  obtain ⟨a1, a2, a3⟩ := r6 t ht
  exact ⟨tg_gt ht, a1, a2, a3⟩
theorem ways_end {f : Fr} {l : List (Int × Int)} {d g : Nat → Int} {D F : Int} (Fi : Fin f l d g) (T : Top d l.length D) (E : F = g l.length) : D ≤ 16 ∧ F ≤ l.length := by
  have hg := gs_nonneg Fi l.length (Nat.le_refl _)
  refine ⟨(T 16).2 ⟨by omega, fun t ht => ?_⟩, by omega⟩
  by_cases h0 : t = 0
  · subst h0; rw [Fi.d0]; omega
  · obtain ⟨i, hi, _, i2, _⟩ := Fi.src t (by omega) ht
    obtain ⟨_, _, _, _, s5, s6⟩ := Fi.step i hi
    rw [(s6 t i2).2.1]; exact s5
theorem room_x {f : Fr} {y x : Int} (hr : rgtE y x = 0) (hi : insd f y x) : roomV f y < 0 ∨ (0 ≤ roomV f y ∧ 0 ≤ x ∧ x < roomV f y) := by
  by_cases h : 2 ≤ y ∧ y ≤ 7
  · have hx : 0 ≤ x ∧ x ≤ 255 := by
      unfold rgtE at hr
      rw [if_neg (by omega), if_neg (by omega), if_neg (by omega), if_neg (by omega), if_pos h] at hr
      by_cases h2 : 0 ≤ x ∧ x ≤ 255
      · exact h2
      · rw [if_neg h2] at hr; omega
    unfold insd at hi
    omega
  · left
    unfold roomV
    rw [if_neg (by omega), if_neg (by omega), if_neg (by omega), if_neg (by omega), if_neg (by omega)]
    omega
theorem Blk.fives {w' : World} {q : Nat} {s1 s2 s3 s4 s5 : Int} (b : Blk w' q 24 [.int .i64 s1, .int .i64 s2, .int .i64 s3, .int .i64 s4, .int .i64 s5]) : w'.cell? ⟨q, 0, none⟩ = some (.int .i64 s1) ∧ w'.cell? ⟨q, 1, none⟩ = some (.int .i64 s2) ∧ w'.cell? ⟨q, 2, none⟩ = some (.int .i64 s3) ∧ w'.cell? ⟨q, 3, none⟩ = some (.int .i64 s4) ∧ w'.cell? ⟨q, 4, none⟩ = some (.int .i64 s5) :=
  ⟨b.cell (j := 0) rfl, b.cell (j := 1) rfl, b.cell (j := 2) rfl, b.cell (j := 3) rfl, b.cell (j := 4) rfl⟩
theorem calls_takes (y p : Int) (w : World) (H : Hid (tak y = p)) : Calls Try.prog 16 #[.int .i64 y] w fun e w' => e = .returned (.int .i64 p) ∧ w = w' := by
  rw [← H.out]; exact rTakes_any y w
set_option maxRecDepth 100000 in
theorem ways_walk (A : Option Addr) (n c : Nat) (l : List (Int × Int)) (f : Fr) (A3 : Option Addr) (n3 c3 : Nat) (ls : List Bool) (w : World) (hr : RowI w w.heap.size A n c l) (_h : True) (hw : RowT w A3 n3 c3 ls) :
    Calls Try.prog 4 #[.slice A n c, .agg #[.int .i64 f.s, .int .i64 f.o, .int .i64 f.n, .int .i64 f.i, .int .i64 f.u], .slice A3 n3 c3] w fun e w' => e = .returned (.bool true) ∧ Below w.heap.size w w' := by
  obtain ⟨s1, s2, s3, s4, s5⟩ := f
  simp only
  by_cases hbig : 600 < n
  · have hd : decide ((600 : Int) < (n : Int)) = true := by simp; omega
    go_enter Try.func4, Try.ntmps4
    go_wp2_with (go_at_call 8; refine (known_any _).mono ?_; rintro e wk ⟨rfl, hbk⟩)
    go_ret
    exact ⟨rfl, (below_box w _).trans (hbk.mono (by simp))⟩
  · have hd : decide ((600 : Int) < (n : Int)) = false := by simp; omega
    have hn : n ≤ 600 := by omega
    have HLN := hide hr.len
    have h3 : ls.length = n3 := by have := hw.len; simpa using this
    have hm3 := hw.max
    have hc3 := hw.cap
    unfold maxLen at hm3
    obtain ⟨⟨D, F, er, at_⟩, hD⟩ : ∃ r, checkM ⟨s1, s2, s3, s4, s5⟩ l = r := ⟨_, rfl⟩
    have HFN := hide (show er = 0 → ∃ d g, Fin ⟨s1, s2, s3, s4, s5⟩ l d g ∧ Top d l.length D ∧ F = g l.length by
      intro h0
      obtain ⟨_, _, _, d, g, Fi, T, E⟩ := check_fin (f := ⟨s1, s2, s3, s4, s5⟩) (l := l) (by rw [hD]; exact h0)
      rw [hD] at T E
      exact ⟨d, g, Fi, T, E⟩)
    have HBD := hide (show er ≠ 0 → D = 0 ∧ F = 0 by
      intro h0
      have := check_bad (f := ⟨s1, s2, s3, s4, s5⟩) (l := l) (by rw [hD]; exact h0)
      rw [hD] at this
      exact this)
    have HD := hide hD
    have H3 := hide h3
    clear hD hbig h3
    go_enter Try.func4, Try.ntmps4
    go_wp2_with fail
    have bF := Blk.new w 24 [.int .i64 s1, .int .i64 s2, .int .i64 s3, .int .i64 s4, .int .i64 s5]
    have hb1 := below_box w (.cells #[.int .i64 s1, .int .i64 s2, .int .i64 s3, .int .i64 s4, .int .i64 s5] 24)
    generalize w.alloc (.cells #[.int .i64 s1, .int .i64 s2, .int .i64 s3, .int .i64 s4, .int .i64 s5] 24) = w1 at bF hb1 ⊢
    have hs1 := hb1.size
    refine (Check_any ⟨s1, s2, s3, s4, s5⟩ w.heap.size A n c l w1 (hr.keep hb1 (Nat.le_refl _)) hs1).mono ?_
    intro e w2 hk
    obtain ⟨rfl, hb2⟩ := checked_is hk HD.out
    have hb02 := hb1.trans (hb2.mono hs1)
    have hs2 := hb02.size
    have bF2 := bF.keep hb2 bF.lt
    clear hk hb1 hb2 bF
    by_cases h0 : er = 0
    · subst h0
      obtain ⟨FD, FG, hFin, hTop, hFuel⟩ := HFN.out (by trivial)
      have HF := hide (And.intro hFin (And.intro hTop hFuel))
      clear hFin hTop hFuel
      go_wp2
      have bX := Blk.new w2 28 [.int .i64 D, .int .i64 F]
      have bF3 := bF2.alloc (.cells #[.int .i64 D, .int .i64 F] 28)
      have hb3 := hb02.alloc hs2 (.cells #[.int .i64 D, .int .i64 F] 28)
      generalize w2.alloc (.cells #[.int .i64 D, .int .i64 F] 28) = w3 at bX bF3 hb3 ⊢
      generalize w2.heap.size = qx at bX ⊢
      clear bF2 hb02
      go_loopw [10, 11, 12, 13] (fun dv mv zv i wr => ∃ (j zc mt : Nat) (dj : Int), j ≤ n ∧ zc ≤ j ∧ mt ≤ j ∧ i = .int .i64 (j : Int) ∧ zv = .int .i64 (zc : Int) ∧ mv = .int .i64 (mt : Int) ∧ dv = .int .i64 dj ∧ Blk wr w.heap.size 24 [.int .i64 s1, .int .i64 s2, .int .i64 s3, .int .i64 s4, .int .i64 s5] ∧ Blk wr qx 28 [.int .i64 D, .int .i64 F] ∧ Below w.heap.size w wr ∧ Hid (FD j = dj ∧ (mt : Int) ≤ FG j)) (fun _ _ _ i _ => n - (intOf i).toNat)
      case atStart => exact ⟨0, 0, 0, 0, Nat.zero_le _, Nat.le_refl _, Nat.le_refl _, rfl, rfl, rfl, rfl, bF3, bX, hb3, hide ⟨HF.out.1.d0, by rw [HF.out.1.g0]; exact Int.le_refl _⟩⟩
      case round =>
        clear bF3 bX hb3
        obtain ⟨j, zc, mt, dj, hj, hzj, hmj, rfl, rfl, rfl, rfl, bF, bX, hb, HJ⟩ := hrel
        have hbs := hb.size
        by_cases hlt : j < n
        · obtain ⟨b, o, y, x, rfl, hbB, hu, hc0, hc1, hx⟩ := (hr.keep hb (Nat.le_refl _)).get hlt
          have hst := ways_step HF.out.1 HF.out.2.1 HF.out.2.2 hu
          rw [HJ.out.1] at hst
          obtain ⟨⟨k1, k2, k3, k4, k5, k6, k7, k8, k9⟩, k10⟩ := hst
          have hmF : (mt : Int) + 1 ≤ F := by have := HJ.out.2; omega
          have HRX := hide (room_x k1 k2)
          have HK := hide k10
          have HR := hide k1
          clear k1 k2 k7 k8 k9 k10 hu
          obtain ⟨pp, hpp⟩ : ∃ pp, tak y = pp := ⟨_, rfl⟩
          obtain ⟨qq, hqq⟩ : ∃ qq, giv y = qq := ⟨_, rfl⟩
          have hpr := tak_range y
          have hqr := giv_range y
          rw [hpp] at hpr k4 k6
          rw [hqq] at hqr k6
          have HP := hide hpp
          have HG := hide hqq
          clear hpp hqq
          obtain ⟨f0, f1, f2, f3, f4⟩ := bF.fives
          have lF := bF.lt
          go_wp2_with fail
          have b14 := Blk.new wr 40 [.int .i64 y, .int .i32 x]
          have bF5 := bF.alloc (.cells #[.int .i64 y, .int .i32 x] 40)
          have bX5 := bX.alloc (.cells #[.int .i64 y, .int .i32 x] 40)
          have hb5 := hb.alloc hbs (.cells #[.int .i64 y, .int .i32 x] 40)
          generalize wr.alloc (.cells #[.int .i64 y, .int .i32 x] 40) = w5 at b14 bF5 bX5 hb5 ⊢
          generalize wr.heap.size = q14 at b14 ⊢
          clear f0 f1 f2 f3 f4 lF bF bX hb hbs hc0 hc1 hbB
          refine (rRoom_any y s1 s2 s3 s4 s5 w5).mono ?_
          rintro e w6 ⟨rfl, hb6⟩
          have b15 := b14.keep hb6 b14.lt
          have bF6 := bF5.keep hb6 bF5.lt
          have bX6 := bX5.keep hb6 bX5.lt
          have hb06 := hb5.trans (hb6.mono hb5.size)
          have hs6 := hb06.size
          clear b14 bF5 bX5 hb5 hb6
          obtain ⟨rm, hrm⟩ : ∃ rm, roomV ⟨s1, s2, s3, s4, s5⟩ y = rm := ⟨_, rfl⟩
          have hrx := HRX.out
          rw [hrm] at hrx ⊢
          clear hrm
          have c0 := b15.cell (j := 0) rfl
          have c1 := b15.cell (j := 1) rfl
          have cx0 := bX6.cell (j := 0) rfl
          have cx1 := bX6.cell (j := 1) rfl
          have hg1 : ¬ D < dj - pp + qq := by omega
          have hg2 : ¬ F < (mt : Int) + 1 := by omega
          have hg3 : ¬ dj - pp < 0 := by omega
          have hnx : ∀ t, t ∈ tg y x j → t ≤ n ∧ j < t ∧ Hid (FD t = dj - pp + qq ∧ ((mt + 1 : Nat) : Int) ≤ FG t) := by
            intro t ht
            obtain ⟨a1, a2, a3, a4⟩ := HK.out t ht
            have h1 := HLN.out
            have h2 := HJ.out
            exact ⟨by omega, a1, hide ⟨by rw [a3, HP.out, HG.out], by omega⟩⟩
          have HNX := hide hnx
          clear hnx
          rcases hrx with hr1 | ⟨hr1, hr2, hr3⟩
          all_goals
            by_cases h10 : y = 10
            · subst h10
              have hx0 : 0 ≤ x ∧ x ≤ 65535 := by have h1 := HR.out; simp [rgtE] at h1; exact h1
              obtain ⟨z, rfl⟩ : ∃ z : Nat, x = (z : Int) := ⟨x.toNat, by omega⟩
              obtain ⟨t1, t2, t3⟩ := HNX.out (j + 1 + z) (by simp [tg])
              go_wp2_with (first
                | (go_at_call 16; refine (calls_takes 10 pp _ HP).mono ?_; rintro e w' ⟨rfl, rfl⟩)
                | (go_at_call 17; refine (rGives_q 10 qq _ HG).mono ?_; rintro e w' ⟨rfl, rfl⟩))
              go_roundw
              case rel => exact ⟨j + 1 + z, zc, mt + 1, _, t1, by omega, by omega, by go_num, rfl, by go_num, rfl, bF6, bX6, hb06, t3⟩
              case measure => simp [intOf]; omega
            · by_cases h11 : y = 11
              · subst h11
                have hx0 : 0 ≤ x ∧ x ≤ 65535 := by have h1 := HR.out; simp [rgtE] at h1; exact h1
                obtain ⟨z, rfl⟩ : ∃ z : Nat, x = (z : Int) := ⟨x.toNat, by omega⟩
                obtain ⟨t1, t2, t3⟩ := HNX.out (j + 1 + z) (by simp [tg])
                obtain ⟨u1, u2, u3⟩ := HNX.out (j + 1) (by simp [tg])
                clear h10
                by_cases hz3 : zc < n3
                · have hwr : Row w6 w.heap.size A3 n3 c3 (ls.map Value.bool) := hw.keep hb06 (Nat.le_refl _)
                  obtain ⟨b9, o9, u9, rfl, _, hv9, hc9⟩ := hwr.get hz3
                  obtain ⟨bb, hbb⟩ : ∃ bb : Bool, u9 = .bool bb := by
                    rw [List.getElem?_map] at hv9
                    cases hq : ls[zc]? with
                    | none => rw [hq] at hv9; cases hv9
                    | some v => rw [hq] at hv9; exact ⟨v, by simpa using hv9.symm⟩
                  subst hbb
                  clear hwr hv9
                  have hz4 : (zc : Int) < (n3 : Int) := by omega
                  cases bb
                  · go_wp2_with (first
                      | (go_at_call 16; refine (calls_takes 11 pp _ HP).mono ?_; rintro e w' ⟨rfl, rfl⟩)
                      | (go_at_call 17; refine (rGives_q 11 qq _ HG).mono ?_; rintro e w' ⟨rfl, rfl⟩))
                    go_roundw
                    case rel => exact ⟨j + 1, zc + 1, mt + 1, _, u1, by omega, by omega, by go_num, by go_num, by go_num, rfl, bF6, bX6, hb06, u3⟩
                    case measure => simp [intOf]; omega
                  · go_wp2_with (first
                      | (go_at_call 16; refine (calls_takes 11 pp _ HP).mono ?_; rintro e w' ⟨rfl, rfl⟩)
                      | (go_at_call 17; refine (rGives_q 11 qq _ HG).mono ?_; rintro e w' ⟨rfl, rfl⟩))
                    go_roundw
                    case rel => exact ⟨j + 1 + z, zc + 1, mt + 1, _, t1, by omega, by omega, by go_num, by go_num, by go_num, rfl, bF6, bX6, hb06, t3⟩
                    case measure => simp [intOf]; omega
                · have hz4 : decide ((zc : Int) < (n3 : Int)) = false := by simp; omega
                  go_wp2_with (first
                    | (go_at_call 16; refine (calls_takes 11 pp _ HP).mono ?_; rintro e w' ⟨rfl, rfl⟩)
                    | (go_at_call 17; refine (rGives_q 11 qq _ HG).mono ?_; rintro e w' ⟨rfl, rfl⟩))
                  go_roundw
                  case rel => exact ⟨j + 1, zc + 1, mt + 1, _, u1, by omega, by omega, by go_num, by go_num, by go_num, rfl, bF6, bX6, hb06, u3⟩
                  case measure => simp [intOf]; omega
              · obtain ⟨u1, u2, u3⟩ := HNX.out (j + 1) (by rw [tg_next h10 h11]; exact List.mem_singleton_self _)
                have e10 : (y == 10) = false := by rw [beq_eq_false_iff_ne]; exact h10
                have e11 : (y == 11) = false := by rw [beq_eq_false_iff_ne]; exact h11
                clear h10 h11
                go_wp2_with (first
                  | (go_at_call 16; refine (calls_takes y pp _ HP).mono ?_; rintro e w' ⟨rfl, rfl⟩)
                  | (go_at_call 17; refine (rGives_q y qq _ HG).mono ?_; rintro e w' ⟨rfl, rfl⟩))
                go_roundw
                case rel => exact ⟨j + 1, zc, mt + 1, _, u1, by omega, by omega, by go_num, rfl, by go_num, rfl, bF6, bX6, hb06, u3⟩
                case measure => simp [intOf]; omega
        · obtain rfl : j = n := by omega
          have hfin := ways_end HF.out.1 HF.out.2.1 HF.out.2.2
          have hdn : dj = 0 := by have h1 := HF.out.1.dn; rw [HLN.out, HJ.out.1] at h1; exact h1
          subst hdn
          have hD16 : D ≤ 16 := hfin.1
          have hFn : F ≤ (j : Int) := by have h1 := hfin.2; rw [HLN.out] at h1; exact h1
          have cx0 := bX.cell (j := 0) rfl
          have cx1 := bX.cell (j := 1) rfl
          clear hfin hlt hj
          go_wp2_with (go_at_call 8; refine (known_any _).mono ?_; rintro e wk ⟨rfl, hbk⟩)
          go_ret
          exact ⟨rfl, hb.trans (hbk.mono hbs)⟩
    · have h0' : (er != 0) = true := by simpa using h0
      obtain ⟨rfl, rfl⟩ := HBD.out h0
      clear h0
      go_wp2_with (go_at_call 8; refine (known_any _).mono ?_; rintro e wk ⟨rfl, hbk⟩)
      go_ret
      exact ⟨rfl, (hb02.alloc hs2 _).trans (hbk.mono (by simp; omega))⟩
end Go.Proofs.Ytllmhgikaijnhaa
