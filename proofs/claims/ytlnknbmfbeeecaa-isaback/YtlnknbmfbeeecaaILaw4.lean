/-
  The walk of the law IsaBack.
-/
import Derived.Test.YtlnknbmfbeeecaaILaw2
namespace Go.Proofs.Ytlnknbmfbeeecaa
open Go.RowKit
set_option maxHeartbeats 2000000

theorem bad_step {l : List (Int × Int)} {j : Nat} {y x : Int} (h : l[j]? = some (y, x)) : (badE (l.take (j + 1)) = 0) ↔ (badE (l.take j) = 0 ∧ rgtE y x = 0) := by
  obtain ⟨hj, he⟩ := List.getElem?_eq_some_iff.1 h
  by_cases hb : badE (l.take j) = 0
  · have := (badE_take hj hb).1
    rw [he] at this
    rw [this]
    exact ⟨fun h => ⟨hb, h⟩, fun h => h.2⟩
  · rw [List.take_succ_eq_append_getElem hj, badE_app_bad _ _ hb]
    exact ⟨fun h => absurd h hb, fun h => absurd h.1 hb⟩
theorem back_step {l : List (Int × Int)} {j : Nat} {y x : Int} (hok : ∀ i ∈ l, okI i) (hb : badE l = 0) (h : l[j]? = some (y, x)) :
    rdO (allB l) ((allB (l.take j)).length : Int) = y ∧ rdX (allB l) ((allB (l.take j)).length : Int) = x ∧ rdT (allB l) ((allB (l.take j)).length : Int) = ((allB (l.take j)).length : Int) + (sizI y x : Int) ∧ rdE (allB l) ((allB (l.take j)).length : Int) = 0 ∧
    (allB (l.take (j + 1))).length = (allB (l.take j)).length + sizI y x := by
  obtain ⟨hj, he⟩ := List.getElem?_eq_some_iff.1 h
  have hg := badE_mem hb l[j] (List.getElem_mem hj)
  have hi := hok l[j] (List.getElem_mem hj)
  have hs : allB l = allB (l.take j) ++ insB l[j].1 l[j].2 ++ allB (l.drop (j + 1)) := by
    rw [← allB_take hj, ← allB_app, List.take_append_drop]
  obtain ⟨g1, g2, g3⟩ := rd_there (allB (l.take j)) (allB (l.drop (j + 1))) hi hg
  rw [← hs] at g1 g2 g3
  obtain ⟨e1, e2, e3⟩ := rd_ok g1
  rw [he] at hg g2 g3
  simp only at hg g2 g3
  refine ⟨e1.trans g2, e2.trans g3, ?_, g1, ?_⟩
  · rw [e3, g2, sizI_ok hg]; omega
  · rw [allB_take hj, List.length_append, insB_len, he, sizI_ok hg]
theorem back_walk (A : Option Addr) (n c : Nat) (l : List (Int × Int)) (w : World) (hr : RowI w w.heap.size A n c l) :
    Calls Try.prog 7 #[.slice A n c] w fun e w' => e = .returned (.bool true) ∧ Below w.heap.size w w' := by
  by_cases hbig : 600 < n
  · have hd : decide ((600 : Int) < (n : Int)) = true := by simp; omega
    go_enter Try.func7, Try.ntmps7
    go_wp2_with (go_at_call 17; refine (known_any _).mono ?_; rintro e wk ⟨rfl, hbk⟩)
    go_ret
    exact ⟨rfl, hbk⟩
  · have hd : decide ((600 : Int) < (n : Int)) = false := by simp; omega
    have hn : n ≤ 600 := by omega
    clear hbig
    have HLEN := hide hr.len
    have hE := encE_small (l := l) (by have := hr.len; omega)
    obtain ⟨er, her⟩ : ∃ z, encE l = z := ⟨_, rfl⟩
    obtain ⟨L, hL⟩ : ∃ z, encL l = z := ⟨_, rfl⟩
    have HE := hide (And.intro her (And.intro hL (hE.symm.trans her)))
    clear hE her hL
    go_enter Try.func7, Try.ntmps7
    go_wp2_with fail
    refine (Encode_any w.heap.size _ _ _ l w hr (Nat.le_refl _)).mono ?_
    rw [HE.out.1, HE.out.2.1]
    rintro e w1 ⟨A1, n1, c1, rfl, ho1, hb1⟩
    have hs1 := hb1.size
    have hr1 := hr.keep hb1 (Nat.le_refl _)
    go_wp2
    go_loopw [5, 6] (fun s i wr => ∃ (j : Nat) (r : Bool), j ≤ n ∧ i = .int .i64 (j : Int) ∧ s = .bool r ∧ Below w1.heap.size w1 wr ∧ Hid (r = true ↔ badE (l.take j) = 0)) (fun _ i _ => n - (intOf i).toNat)
    case atStart => exact ⟨0, true, Nat.zero_le _, rfl, rfl, Below.refl _ _, hide ⟨fun _ => rfl, fun _ => rfl⟩⟩
    case round =>
      obtain ⟨j, r, hj, rfl, rfl, hb, HR⟩ := hrel
      have hbs := hb.size
      by_cases hlt : j < n
      · obtain ⟨b, o, y, x, rfl, _, hu, hc0, hc1, hx⟩ := (hr1.keep hb hs1).get hlt
        have HU := hide (bad_step hu)
        have hi1 : (j : Int) < (n : Int) := by omega
        clear hu hx
        cases r with
        | true =>
          go_wp2_with (go_at_call 12; refine (Right_any _ _ _).mono ?_; rintro e w2 ⟨rfl, hb2⟩)
          go_roundw
          case rel => exact ⟨j + 1, rgtE y x == 0, by omega, by go_num, rfl, hb.trans (hb2.mono hbs), hide (by rw [HU.out, beq_iff_eq]; exact ⟨fun h => ⟨(by first | exact HR.out.1 rfl | exact HR.out.1 trivial), h⟩, fun h => h.2⟩)⟩
          case measure => simp [intOf]; omega
        | false =>
          go_wp2
          go_roundw
          case rel => exact ⟨j + 1, false, by omega, by go_num, rfl, hb, hide (by rw [HU.out]; exact ⟨(fun h => by cases h), fun h => absurd (HR.out.2 h.1) (by simp)⟩)⟩
          case measure => simp [intOf]; omega
      · obtain rfl : n = j := by omega
        generalize wr = w3 at *
        have hw3 : Below w.heap.size w w3 := hb1.trans (hb.mono hs1)
        have HRR : Hid (r = true ↔ er = 0) := by have := HR.out; rw [← HLEN.out, List.take_length, HE.out.2.2] at this; exact this
        clear HR
        have k1 := own_keep ho1 hb
        by_cases hz : er = 0
        · obtain rfl : r = true := HRR.out.2 hz
          subst hz
          have hbad : badE l = 0 := HE.out.2.2
          obtain ⟨e1, e2⟩ := enc_end (l := l) (by have := HLEN.out; omega) hbad
          have hLA : L = allB l := HE.out.2.1.symm.trans e2
          subst hLA
          have HD := hide (decA_back l hr.oks hbad (by have := HLEN.out; omega))
          have HBA := hide hbad
          have hn1 := own8_len k1
          have hn13 : n1 ≤ 3000 := by have := allB_len_le l; have := HLEN.out; omega
          have HN1 := hide hn1
          have hR3 := Row.of_own k1
          have hr3 := hr.keep hw3 (Nat.le_refl _)
          clear hbad e1 e2 hn1 HRR k1 ho1 hr1 hd hb
          go_wp2_with fail
          refine (Decode_any w3.heap.size _ _ _ (allB l) w3 hR3 (Nat.le_refl _) (by omega)).mono ?_
          rw [HD.out]
          rintro e w4 ⟨A4, n4, c4, rfl, ho4, hb4⟩
          have hs4 := hb4.size
          have hs3 := hw3.size
          have hR4 := hR3.keep hb4 (Nat.le_refl _)
          have hw4 := hw3.trans (hb4.mono hs3)
          have k4 := RowI.of_own ho4 hr.oks
          clear ho4 hb4 hR3 hr3
          go_wp2
          go_loopw [10, 11] (fun a i wr => ∃ (j p : Nat), j ≤ n ∧ p ≤ 3000 ∧ i = .int .i64 (j : Int) ∧ a = .int .i64 (p : Int) ∧ Below w4.heap.size w4 wr ∧ Hid ((allB (l.take j)).length = p)) (fun _ i _ => n - (intOf i).toNat)
          case atStart => exact ⟨0, 0, Nat.zero_le _, by omega, rfl, rfl, Below.refl _ _, hide rfl⟩
          case round =>
            obtain ⟨j, p, hj, hp, rfl, rfl, hb, HP⟩ := hrel
            generalize wr = w5' at *
            have hbs := hb.size
            by_cases hlt : j < n
            · have hw5 := hw4.trans (hb.mono hw4.size)
              obtain ⟨b, o, y, x, rfl, hbB, hu, hc0, hc1, hx⟩ := (hr.keep hw5 (Nat.le_refl _)).get hlt
              have HS := hide (back_step hr.oks HBA.out hu)
              rw [HP.out] at HS
              obtain ⟨s, hs⟩ : ∃ z, sizI y x = z := ⟨_, rfl⟩
              have hs5 : s ≤ 5 := by rw [← hs]; exact sizI_le y x
              rw [hs] at HS
              have HSZ := hide hs
              have hi1 : (j : Int) < (n : Int) := by omega
              have hps : p + s ≤ 3000 := by
                have h1 := HS.out.2.2.2.2
                have h2 := take_len_le l (j + 1) (by omega)
                omega
              clear hu hx hs
              go_wp2_with fail
              refine (Read_any w3.heap.size _ _ _ (allB l) (p : Int) w5' (hR4.keep hb hs4) (by omega) (by omega)).mono ?_
              rw [HS.out.1, HS.out.2.1, HS.out.2.2.1, HS.out.2.2.2.1]
              rintro e w5 ⟨rfl, hb5⟩
              have hb6 := below_box w5 (.cells #[.int .i64 y, .int .i32 x] 23)
              have b6 := Blk.new w5 23 [.int .i64 y, .int .i32 x]
              go_wp2_with fail
              generalize w5.alloc (.cells #[.int .i64 y, .int .i32 x] 23) = w6 at hb6 b6 ⊢
              have hs5' := hb5.size
              have hbb : b < w5'.heap.size := by have := hw5.size; omega
              have hlt6 : w5.heap.size < w6.drew.heap.size := b6.lt
              have hltb : b < w6.drew.heap.size := by omega
              have hb56 := hb5.trans (hb6.mono hs5')
              have d0 : w6.drew.cell? ⟨w5.heap.size, 0, none⟩ = some (.int .i64 y) := b6.cell (j := 0) rfl
              have d1 : w6.drew.cell? ⟨w5.heap.size, 1, none⟩ = some (.int .i32 x) := b6.cell (j := 1) rfl
              have m0 : w6.drew.cell? ⟨b, o + j * 2, none⟩ = some (.int .i64 y) := (hb56.cell (p := ⟨b, o + j * 2, none⟩) hbb).trans hc0
              have m1 : w6.drew.cell? ⟨b, o + j * 2 + 1, none⟩ = some (.int .i32 x) := (hb56.cell (p := ⟨b, o + j * 2 + 1, none⟩) hbb).trans hc1
              have HB6 := hide (hb.trans ((hb56.drew).mono hbs))
              have hps2 : IntKind.i64.wrap ((p : Int) + (s : Int)) = (p : Int) + (s : Int) := wrap_small (by omega) (by omega)
              have hcap := (hr.keep hw5 (Nat.le_refl _)).cap
              have hmx := (hr.keep hw5 (Nat.le_refl _)).max
              clear hc0 hc1 hb56 hb6 b6 hb5
              refine wp_region_held_drew (S := fun w' => w'.cell? ⟨w5.heap.size, 0, none⟩ = some (.int .i64 y) ∧ w'.cell? ⟨w5.heap.size, 1, none⟩ = some (.int .i32 x) ∧ w'.cell? ⟨b, o + j * 2, none⟩ = some (.int .i64 y) ∧ w'.cell? ⟨b, o + j * 2 + 1, none⟩ = some (.int .i32 x)) (by kernel_rfl) ⟨d0, d1, m0, m1⟩ (fun hS0 => ?_)
              generalize w6.drew = w8 at *
              refine wpAnyH_take (i := 0) (v := .int .i64 0) rfl (by kernel_rfl) (by kernel_rfl) (by kernel_rfl) (fun _ _ _ h => h) (Or.inl ⟨by rfl, fun w _ => by go_simp⟩) (by assumption) ?_
              simp only [List.getElem_toArray, List.getElem_cons_zero, Act.put, List.setIfInBounds_toArray, List.set_cons_zero, List.set_cons_succ]
              refine wpAnyH_take (i := 1) (v := .bool false) rfl (by kernel_rfl) (by kernel_rfl) (by kernel_rfl) (fun _ _ _ h => h) (Or.inl ⟨by rfl, fun w _ => by go_simp⟩) (by assumption) ?_
              simp only [List.getElem_toArray, List.getElem_cons_zero, List.getElem_cons_succ, Act.put, List.setIfInBounds_toArray, List.set_cons_zero, List.set_cons_succ]
              refine wpAnyH_take (i := 2) (v := .bool false) rfl (by kernel_rfl) (by kernel_rfl) (by kernel_rfl) (fun _ _ _ h => h) (Or.inl ⟨by rfl, fun w _ => by go_simp⟩) (by assumption) ?_
              simp only [List.getElem_toArray, List.getElem_cons_zero, List.getElem_cons_succ, Act.put, List.setIfInBounds_toArray, List.set_cons_zero, List.set_cons_succ]
              refine wpAnyH_take (i := 3) (v := .agg #[.int .i64 y, .int .i32 x]) rfl (by kernel_rfl) (by kernel_rfl) (by kernel_rfl) (fun _ _ _ h => h) (Or.inl ⟨by rfl, fun w h => by have h9 := (And.intro h.1 h.2.1); go_simp⟩) (by assumption) ?_
              simp only [List.getElem_toArray, List.getElem_cons_zero, List.getElem_cons_succ, Act.put, List.setIfInBounds_toArray, List.set_cons_zero, List.set_cons_succ]
              refine wpAnyH_take (i := 4) (v := .slice (some ⟨b, o, none⟩) n c) rfl (by kernel_rfl) (by kernel_rfl) (by kernel_rfl) (fun _ _ _ h => h) (Or.inl ⟨by rfl, fun w _ => by go_simp⟩) (by assumption) ?_
              simp only [List.getElem_toArray, List.getElem_cons_zero, List.getElem_cons_succ, Act.put, List.setIfInBounds_toArray, List.set_cons_zero, List.set_cons_succ]
              refine wpAnyH_take (i := 5) (v := .int .i64 (j : Int)) rfl (by kernel_rfl) (by kernel_rfl) (by kernel_rfl) (fun _ _ _ h => h) (Or.inl ⟨by rfl, fun w _ => by go_simp⟩) (by assumption) ?_
              simp only [List.getElem_toArray, List.getElem_cons_zero, List.getElem_cons_succ, Act.put, List.setIfInBounds_toArray, List.set_cons_zero, List.set_cons_succ]
              refine wpAnyH_take (i := 6) (v := .pointer (some ⟨b, o + j * 2, none⟩)) rfl (by kernel_rfl) (by kernel_rfl) (by kernel_rfl) (fun _ _ _ h => h) (Or.inl ⟨by rfl, fun w _ => by go_simp⟩) (by assumption) ?_
              simp only [List.getElem_toArray, List.getElem_cons_zero, List.getElem_cons_succ, Act.put, List.setIfInBounds_toArray, List.set_cons_zero, List.set_cons_succ]
              refine wpAnyH_take (i := 7) (v := .agg #[.int .i64 y, .int .i32 x]) rfl (by kernel_rfl) (by kernel_rfl) (by kernel_rfl) (fun _ _ _ h => h) (Or.inl ⟨by rfl, fun w h => by have h9 := (And.intro h.2.2.1 h.2.2.2); go_simp⟩) (by assumption) ?_
              simp only [List.getElem_toArray, List.getElem_cons_zero, List.getElem_cons_succ, Act.put, List.setIfInBounds_toArray, List.set_cons_zero, List.set_cons_succ]
              refine wpAnyH_take (i := 8) (v := .bool false) rfl (by kernel_rfl) (by kernel_rfl) (by kernel_rfl) (fun _ _ _ h => h) (Or.inl ⟨by rfl, fun w _ => by go_simp⟩) (by assumption) ?_
              simp only [List.getElem_toArray, List.getElem_cons_zero, List.getElem_cons_succ, Act.put, List.setIfInBounds_toArray, List.set_cons_zero, List.set_cons_succ]
              refine wpAnyH_take (i := 9) (v := .bool false) rfl (by kernel_rfl) (by kernel_rfl) (by kernel_rfl) (fun _ _ _ h => h) (Or.inl ⟨by rfl, fun w _ => by go_simp⟩) (by assumption) ?_
              simp only [List.getElem_toArray, List.getElem_cons_zero, List.getElem_cons_succ, Act.put, List.setIfInBounds_toArray, List.set_cons_zero, List.set_cons_succ]
              refine wpAnyH_take (i := 10) (v := .bool false) rfl (by kernel_rfl) (by kernel_rfl) (by kernel_rfl) (fun _ _ _ h => h) (Or.inl ⟨by rfl, fun w _ => by go_simp⟩) (by assumption) ?_
              simp only [List.getElem_toArray, List.getElem_cons_zero, List.getElem_cons_succ, Act.put, List.setIfInBounds_toArray, List.set_cons_zero, List.set_cons_succ]
              refine wpAnyH_take (i := 11) (v := .int .i64 ((p : Int) + (s : Int))) rfl (by kernel_rfl) (by kernel_rfl) (by kernel_rfl) (fun _ _ _ h => h) (Or.inl ⟨by rfl, fun w _ => by go_simp⟩) (by assumption) ?_
              simp only [List.getElem_toArray, List.getElem_cons_zero, List.getElem_cons_succ, Act.put, List.setIfInBounds_toArray, List.set_cons_zero, List.set_cons_succ]
              refine wpAnyH_take (i := 12) (v := .int .i64 (p : Int)) rfl (by kernel_rfl) (by kernel_rfl) (by kernel_rfl) (fun _ _ _ h => h) (Or.inl ⟨by rfl, fun w _ => by go_simp⟩) (by assumption) ?_
              simp only [List.getElem_toArray, List.getElem_cons_zero, List.getElem_cons_succ, Act.put, List.setIfInBounds_toArray, List.set_cons_zero, List.set_cons_succ]
              refine wpAnyH_take (i := 13) (v := .slice (some ⟨b, o, none⟩) n c) rfl (by kernel_rfl) (by kernel_rfl) (by kernel_rfl) (fun _ _ _ h => h) (Or.inl ⟨by rfl, fun w _ => by go_simp⟩) (by assumption) ?_
              simp only [List.getElem_toArray, List.getElem_cons_zero, List.getElem_cons_succ, Act.put, List.setIfInBounds_toArray, List.set_cons_zero, List.set_cons_succ]
              refine wpAnyH_take (i := 14) (v := .int .i64 (j : Int)) rfl (by kernel_rfl) (by kernel_rfl) (by kernel_rfl) (fun _ _ _ h => h) (Or.inl ⟨by rfl, fun w _ => by go_simp⟩) (by assumption) ?_
              simp only [List.getElem_toArray, List.getElem_cons_zero, List.getElem_cons_succ, Act.put, List.setIfInBounds_toArray, List.set_cons_zero, List.set_cons_succ]
              refine wpAnyH_take (i := 15) (v := .pointer (some ⟨b, o + j * 2, none⟩)) rfl (by kernel_rfl) (by kernel_rfl) (by kernel_rfl) (fun _ _ _ h => h) (Or.inl ⟨by rfl, fun w _ => by go_simp⟩) (by assumption) ?_
              simp only [List.getElem_toArray, List.getElem_cons_zero, List.getElem_cons_succ, Act.put, List.setIfInBounds_toArray, List.set_cons_zero, List.set_cons_succ]
              refine wpAnyH_take (i := 16) (v := .agg #[.int .i64 y, .int .i32 x]) rfl (by kernel_rfl) (by kernel_rfl) (by kernel_rfl) (fun _ _ _ h => h) (Or.inl ⟨by rfl, fun w h => by have h9 := (And.intro h.2.2.1 h.2.2.2); go_simp⟩) (by assumption) ?_
              simp only [List.getElem_toArray, List.getElem_cons_zero, List.getElem_cons_succ, Act.put, List.setIfInBounds_toArray, List.set_cons_zero, List.set_cons_succ]
              refine wpAnyH_ready (rs := [17]) (by kernel_rfl) (by simp) ?_
              refine AllReadyH.cons rfl (fun K hKK => ?_) AllReadyH.nil
              go_simp
              refine (Size_any _ _ _).mono ?_
              rw [HSZ.out]
              rintro e w7 ⟨rfl, hb7⟩
              refine hKK.out _ _ (⟨(hb7.cell (p := ⟨w5.heap.size, 0, none⟩) hlt6).trans d0, (hb7.cell (p := ⟨w5.heap.size, 1, none⟩) hlt6).trans d1, (hb7.cell (p := ⟨b, o + j * 2, none⟩) hltb).trans m0, (hb7.cell (p := ⟨b, o + j * 2 + 1, none⟩) hltb).trans m1⟩) (fun hS17 => ?_)
              clear hKK
              refine wpAnyH_take (i := 18) (v := .int .i64 ((p : Int) + (s : Int))) rfl (by kernel_rfl) (by kernel_rfl) (by kernel_rfl) (fun _ _ _ h => h) (Or.inl ⟨by rfl, fun w _ => by go_simp⟩) (by assumption) ?_
              simp only [List.getElem_toArray, List.getElem_cons_zero, List.getElem_cons_succ, Act.put, List.setIfInBounds_toArray, List.set_cons_zero, List.set_cons_succ]
              refine wpAnyH_take (i := 19) (v := .bool false) rfl (by kernel_rfl) (by kernel_rfl) (by kernel_rfl) (fun _ _ _ h => h) (Or.inl ⟨by rfl, fun w _ => by go_simp⟩) (by assumption) ?_
              simp only [List.getElem_toArray, List.getElem_cons_zero, List.getElem_cons_succ, Act.put, List.setIfInBounds_toArray, List.set_cons_zero, List.set_cons_succ]
              refine wpAnyH_take (i := 20) (v := .bool false) rfl (by kernel_rfl) (by kernel_rfl) (by kernel_rfl) (fun _ _ _ h => h) (Or.inl ⟨by rfl, fun w _ => by go_simp⟩) (by assumption) ?_
              simp only [List.getElem_toArray, List.getElem_cons_zero, List.getElem_cons_succ, Act.put, List.setIfInBounds_toArray, List.set_cons_zero, List.set_cons_succ]
              refine wpAnyH_done (by kernel_rfl) ?_ _
              go_wp2
              go_roundw
              case rel => exact ⟨j + 1, p + s, by omega, hps, by go_num, by go_num, HB6.out.trans (hb7.mono (by have := HB6.out.size; omega)), hide HS.out.2.2.2.2⟩
              case measure => simp [intOf]; omega
            · obtain rfl : n = j := by omega
              have hpe : n1 = p := by have h1 := HP.out; have h2 := HN1.out; rw [← HLEN.out, List.take_length] at h1; omega
              subst hpe
              have k5 := k4.keep hb (Nat.le_refl _)
              have hw5 := hw4.trans (hb.mono hw4.size)
              have r5 := hr.keep hw5 (Nat.le_refl _)
              have HB := hide hw5
              clear hw5 k4 hR4 hr
              go_wp2_with (first
                | (go_at_call 25; refine (rSame_any _ _ _ _ _ _ _ _ l _ k5 r5).mono ?_; rintro e w8 ⟨k8, rfl, rfl⟩)
                | (go_at_call 17; refine (known_any _).mono ?_; rintro e wk ⟨rfl, hbk⟩))
              go_ret
              exact ⟨rfl, (HB.out.trans (below_drewN _ w5' k8)).trans (hbk.mono HB.out.size)⟩
        · obtain rfl : r = false := by
            cases r with
            | false => rfl
            | true => exact absurd (HRR.out.1 rfl) hz
          have hze : (er == 0) = false := by simpa using hz
          have hL0 : L = [] := by rw [← HE.out.2.1]; exact encL_bad (by rw [HE.out.1]; exact hz)
          subst hL0
          obtain rfl : n1 = 0 := by have := own8_len k1; simpa using this.symm
          have HB := hide hw3
          clear k1 ho1 hr1 hr HRR hz hb hw3
          go_wp2_with (go_at_call 17; refine (known_any _).mono ?_; rintro e wk ⟨rfl, hbk⟩)
          go_ret
          exact ⟨rfl, HB.out.trans (hbk.mono HB.out.size)⟩
end Go.Proofs.Ytlnknbmfbeeecaa
