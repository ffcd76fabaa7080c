/-
  The walk of the law JudgeJoins.
-/
import Derived.Test.YtllmhgikaijnhaaULent
import Derived.Test.YtllmhgikaijnhaaUMath2
namespace Go.Proofs.Ytllmhgikaijnhaa
open Go.RowKit
set_option maxHeartbeats 4000000

theorem run_append_ins {w : World} (base : Nat) (ty : TypeId) (v : Value) (n : Nat) (l : List (Int × Int)) (hown : w.ownsRow base 40 2 v n (csI l)) (B : Nat) (A : Option Addr) (m c : Nat) (news : List (Int × Int)) (hr : RowI w B A m c news)
    (hbytes : n + m ≤ 1099511627776) (hbs : base ≤ w.heap.size) :
    ∃ A' c' w', (Builtin.append_ #[22, 22] ty #[v, .slice A m c]).run Try.prog w = .ok (.slice A' (n + m) c') w' ∧ w'.ownsRow base 40 2 (.slice A' (n + m) c') (n + m) (csI (l ++ news)) ∧ w.grownBy w' v.ownBlock := by
  obtain ⟨i, hi, h1⟩ := Option.map_eq_some_iff.1 infoI
  simp at h1
  obtain ⟨hz, hsize, hby⟩ := h1
  rcases A with _ | ad
  · have h0 := hr.nil rfl
    have hc := hr.cap
    obtain rfl : m = 0 := by omega
    subst h0
    obtain rfl : news = [] := List.eq_nil_of_length_eq_zero hr.len
    obtain ⟨A', c', rfl⟩ := ownI_shape hown
    exact ⟨A', c', w, run_append_owned_none w base _ _ _ i 2 Try.underlying22 hi _ n _ hown, by simpa using hown, World.grownBy.refl w _⟩
  · have hcells : ∀ j u, (csI news)[j]? = some u → w.cell? (ad.add j) = some u := by
      intro j u hu
      have hj : j < (csI news).length := (List.getElem?_eq_some_iff.1 hu).1
      rw [csI_len] at hj
      obtain ⟨b, o, hA, _, hc⟩ := hr.cells (by have := hr.len; omega)
      obtain rfl : ad = ⟨b, o, none⟩ := by simpa using hA
      rw [Addr.add_lit]
      exact hc j u hu
    obtain ⟨v', w', hrun, hown', hg, _⟩ := run_append_own (P := Try.prog) w base 22 ty 40 i _ 2 16 Try.underlying22 hi hz hsize hby rfl (by omega) v n _ hown ad m c (csI news) (by rw [csI_len, hr.len]) hcells (csI_one _) (by unfold maxLen; omega) (by omega) hbs
    obtain ⟨A', c', rfl⟩ := ownI_shape hown'
    exact ⟨A', c', w', hrun, by rw [csI_app]; exact hown', hg⟩
theorem step_append_ins {w : World} {ops : Array Oper} {o : Oper} {a : Act} {K : Act → World → Prop} {Q : Exit → Act → World → Prop} {E : Prop} (hgd : o.guard = none) (s x : Operand)
    (ho : o.op = .call { callee := .builtin .append, args := #[s, x], argTypes := #[22, 22] }) (v u : Value) (hs : a.eval s = v) (hx : a.eval x = u) (r : Value) (w' : World) (hrun : (Builtin.append_ #[22, 22] o.type #[v, u]).run Try.prog w = .ok r w')
    (h : K (a.put o.dst r) w') : if Region.wanted o (yielded ops a.tmps) = true then Oper.wp Try.prog o a w K Q else E := by
  have hw : Region.wanted o (yielded ops a.tmps) = true := by simp [Region.wanted, hgd]
  rw [if_pos hw]
  unfold Oper.wp
  simp [execOp, ho, resolve, invoke, builtin, hs, hx, hrun, Result.andThen]
  exact h
theorem Blk.five {w' : World} {q : Nat} {s1 s2 s3 s4 s5 : Int} (b : Blk w' q 24 [.int .i64 s1, .int .i64 s2, .int .i64 s3, .int .i64 s4, .int .i64 s5]) : w'.cell? ⟨q, 0, none⟩ = some (.int .i64 s1) ∧ w'.cell? ⟨q, 1, none⟩ = some (.int .i64 s2) ∧ w'.cell? ⟨q, 2, none⟩ = some (.int .i64 s3) ∧ w'.cell? ⟨q, 3, none⟩ = some (.int .i64 s4) ∧ w'.cell? ⟨q, 4, none⟩ = some (.int .i64 s5) :=
  ⟨b.cell (j := 0) rfl, b.cell (j := 1) rfl, b.cell (j := 2) rfl, b.cell (j := 3) rfl, b.cell (j := 4) rfl⟩
structure JK (w0 : World) (s1 s2 s3 s4 s5 D F D' F' : Int) (qx qy B : Nat) (A A' : Option Addr) (n n' c c' : Nat) (l l' : List (Int × Int)) (w : World) : Prop where
  bF : Blk w w0.heap.size 24 [.int .i64 s1, .int .i64 s2, .int .i64 s3, .int .i64 s4, .int .i64 s5]
  bX : Blk w qx 28 [.int .i64 D, .int .i64 F]
  bY : Blk w qy 28 [.int .i64 D', .int .i64 F']
  r1 : RowI w w0.heap.size A n c l
  r2 : RowI w w0.heap.size A' n' c' l'
  bl : Below w0.heap.size w0 w
  lt : w0.heap.size < B ∧ qx < B ∧ qy < B
  sz : B ≤ w.heap.size
section
variable {w0 w w' : World} {s1 s2 s3 s4 s5 D F D' F' : Int} {qx qy B B' g : Nat} {A A' : Option Addr} {n n' c c' : Nat} {l l' : List (Int × Int)}
theorem JK.keepB (t : JK w0 s1 s2 s3 s4 s5 D F D' F' qx qy B A A' n n' c c' l l' w) (hb : Below B' w w') (h : B ≤ B') : JK w0 s1 s2 s3 s4 s5 D F D' F' qx qy B A A' n n' c c' l l' w' := by
  have hl := t.lt
  exact ⟨t.bF.keep hb (by omega), t.bX.keep hb (by omega), t.bY.keep hb (by omega), t.r1.keep hb (by omega), t.r2.keep hb (by omega), t.bl.trans (hb.mono (by omega)), t.lt, by have := hb.size; have := t.sz; omega⟩
theorem JK.keep (t : JK w0 s1 s2 s3 s4 s5 D F D' F' qx qy B A A' n n' c c' l l' w) (hb : Below w.heap.size w w') : JK w0 s1 s2 s3 s4 s5 D F D' F' qx qy B A A' n n' c c' l l' w' := t.keepB hb t.sz
theorem JK.alloc (t : JK w0 s1 s2 s3 s4 s5 D F D' F' qx qy B A A' n n' c c' l l' w) (o : Obj) : JK w0 s1 s2 s3 s4 s5 D F D' F' qx qy B A A' n n' c c' l l' (w.alloc o) := t.keep (below_box w o)
theorem JK.set (t : JK w0 s1 s2 s3 s4 s5 D F D' F' qx qy B A A' n n' c c' l l' w) (hg : B ≤ g) (x y : Value) : JK w0 s1 s2 s3 s4 s5 D F D' F' qx qy B A A' n n' c c' l l' ((w.setCell ⟨g, 0, none⟩ x).setCell ⟨g, 1, none⟩ y) :=
  t.keepB (B' := B) (below_set (below_set (Below.refl B w) hg x) hg y) (Nat.le_refl _)
theorem JK.five (t : JK w0 s1 s2 s3 s4 s5 D F D' F' qx qy B A A' n n' c c' l l' w') : w'.cell? ⟨w0.heap.size, 0, none⟩ = some (.int .i64 s1) ∧ w'.cell? ⟨w0.heap.size, 1, none⟩ = some (.int .i64 s2) ∧ w'.cell? ⟨w0.heap.size, 2, none⟩ = some (.int .i64 s3) ∧ w'.cell? ⟨w0.heap.size, 3, none⟩ = some (.int .i64 s4) ∧ w'.cell? ⟨w0.heap.size, 4, none⟩ = some (.int .i64 s5) := t.bF.five
end
theorem joins_walk (A : Option Addr) (n c : Nat) (l : List (Int × Int)) (A' : Option Addr) (n' c' : Nat) (l' : List (Int × Int)) (f : Fr) (w : World) (hr : RowI w w.heap.size A n c l) (hr' : RowI w w.heap.size A' n' c' l') (_h : True) :
    Calls Try.prog 5 #[.slice A n c, .slice A' n' c', .agg #[.int .i64 f.s, .int .i64 f.o, .int .i64 f.n, .int .i64 f.i, .int .i64 f.u]] w fun e w' => e = .returned (.bool true) ∧ Below w.heap.size w w' := by
  obtain ⟨s1, s2, s3, s4, s5⟩ := f
  simp only
  by_cases hbig : 300 < n ∨ 300 < n'
  · rcases (show 300 < n ∨ (¬ 300 < n ∧ 300 < n') by omega) with h1 | ⟨h1, h2⟩
    · have hd : decide ((300 : Int) < (n : Int)) = true := by simp; omega
      clear hbig
      go_enter Try.func5, Try.ntmps5
      go_wp2_with (go_at_call 8; refine (known_any _).mono ?_; rintro e wk ⟨rfl, hbk⟩)
      go_ret
      exact ⟨rfl, (below_box w _).trans (hbk.mono (by simp))⟩
    · have hd : decide ((300 : Int) < (n : Int)) = false := by simp; omega
      have hd' : decide ((300 : Int) < (n' : Int)) = true := by simp; omega
      clear hbig
      go_enter Try.func5, Try.ntmps5
      go_wp2_with (go_at_call 8; refine (known_any _).mono ?_; rintro e wk ⟨rfl, hbk⟩)
      go_ret
      exact ⟨rfl, (below_box w _).trans (hbk.mono (by simp))⟩
  · have hd : decide ((300 : Int) < (n : Int)) = false := by simp; omega
    have hd' : decide ((300 : Int) < (n' : Int)) = false := by simp; omega
    have hn : n ≤ 300 := by omega
    have hn' : n' ≤ 300 := by omega
    have HLL := hide (And.intro hr.len hr'.len)
    obtain ⟨⟨D, F, er, at_⟩, hD⟩ : ∃ r, checkM ⟨s1, s2, s3, s4, s5⟩ l = r := ⟨_, rfl⟩
    obtain ⟨⟨D', F', er', at'⟩, hD'⟩ : ∃ r, checkM ⟨s1, s2, s3, s4, s5⟩ l' = r := ⟨_, rfl⟩
    have HF := hide (show er = 0 → l.length ≤ 600 ∧ 0 ≤ F ∧ F ≤ l.length by
      intro h0
      obtain ⟨_, h6, _, d, g, FF, _, E⟩ := check_fin (f := ⟨s1, s2, s3, s4, s5⟩) (l := l) (by rw [hD]; exact h0)
      rw [hD] at E
      have := gs_nonneg FF l.length (Nat.le_refl _)
      simp only at E
      omega)
    have HF' := hide (show er' = 0 → l'.length ≤ 600 ∧ 0 ≤ F' ∧ F' ≤ l'.length by
      intro h0
      obtain ⟨_, h6, _, d, g, FF, _, E⟩ := check_fin (f := ⟨s1, s2, s3, s4, s5⟩) (l := l') (by rw [hD']; exact h0)
      rw [hD'] at E
      have := gs_nonneg FF l'.length (Nat.le_refl _)
      simp only at E
      omega)
    have HD := hide hD
    have HD' := hide hD'
    clear hD hD' hbig
    go_enter Try.func5, Try.ntmps5
    go_wp2_with fail
    have bF := Blk.new w 24 [.int .i64 s1, .int .i64 s2, .int .i64 s3, .int .i64 s4, .int .i64 s5]
    have hb1 := below_box w (.cells #[.int .i64 s1, .int .i64 s2, .int .i64 s3, .int .i64 s4, .int .i64 s5] 24)
    generalize w.alloc (.cells #[.int .i64 s1, .int .i64 s2, .int .i64 s3, .int .i64 s4, .int .i64 s5] 24) = w1 at bF hb1 ⊢
    have hs1 := hb1.size
    refine (Check_any ⟨s1, s2, s3, s4, s5⟩ w.heap.size A n c l w1 (hr.keep hb1 (Nat.le_refl _)) hs1).mono ?_
    intro e w2 hk
    obtain ⟨rfl, hb2⟩ := checked_is hk HD.out
    have bF2 := bF.keep hb2 bF.lt
    have hb02 := hb1.trans (hb2.mono hs1)
    obtain ⟨cf0, cf1, cf2, cf3, cf4⟩ := bF2.five
    have lF := bF2.lt
    clear hk hb2 bF hb1
    go_wp2_with fail
    have bX := Blk.new w2 28 [.int .i64 D, .int .i64 F]
    have bF3 := bF2.alloc (.cells #[.int .i64 D, .int .i64 F] 28)
    have hb03 := hb02.alloc hb02.size (.cells #[.int .i64 D, .int .i64 F] 28)
    generalize hqx : w2.heap.size = qx at bX ⊢
    generalize w2.alloc (.cells #[.int .i64 D, .int .i64 F] 28) = w3 at bX bF3 hb03 ⊢
    clear cf0 cf1 cf2 cf3 cf4 lF bF2 hb02 hqx
    refine (Check_any ⟨s1, s2, s3, s4, s5⟩ w.heap.size A' n' c' l' w3 (hr'.keep hb03 (Nat.le_refl _)) hb03.size).mono ?_
    intro e w4 hk
    obtain ⟨rfl, hb4⟩ := checked_is hk HD'.out
    have bF4 := bF3.keep hb4 bF3.lt
    have bX4 := bX.keep hb4 bX.lt
    have hb04 := hb03.trans (hb4.mono hb03.size)
    clear hk hb4 bF3 bX hb03
    have bY5 := Blk.new w4 28 [.int .i64 D', .int .i64 F']
    have bF5 := bF4.alloc (.cells #[.int .i64 D', .int .i64 F'] 28)
    have bX5 := bX4.alloc (.cells #[.int .i64 D', .int .i64 F'] 28)
    have hb05 := hb04.alloc hb04.size (.cells #[.int .i64 D', .int .i64 F'] 28)
    have HB5 := hide hb05
    by_cases hz : er = 0 ∧ er' = 0
    · obtain ⟨rfl, rfl⟩ := hz
      have hj := joins_check (f := ⟨s1, s2, s3, s4, s5⟩) (a := l) (b := l') (by rw [HD.out]) (by rw [HD'.out]) (by have := HLL.out; omega)
      obtain ⟨⟨D2, F2, er2, at2⟩, hD2⟩ : ∃ r, checkM ⟨s1, s2, s3, s4, s5⟩ (l ++ l') = r := ⟨_, rfl⟩
      rw [hD2, HD.out, HD'.out] at hj
      simp only at hj
      obtain ⟨rfl, hj1, hj2⟩ := hj
      have hmx := max_run D D'
      rw [← hj1] at hmx
      have HD2 := hide hD2
      have hF := HF.out rfl
      have hF' := HF'.out rfl
      have hsum : (F2 == F + F') = true := by simpa using hj2
      have hl6 := HLL.out
      clear hD2 hj1 hj2
      go_wp2_with fail
      generalize hqy : w4.heap.size = qy at bY5 ⊢
      generalize w4.alloc (.cells #[.int .i64 D', .int .i64 F'] 28) = w5 at bY5 bF5 bX5 hb05 HB5 ⊢
      clear hb04 bF4 bX4 hqy
      have hs5 := hb05.size
      have K5 := bF5.drew.five
      have J0 : JK w s1 s2 s3 s4 s5 D F D' F' qx qy w5.heap.size A A' n n' c c' l l' w5.drew := ⟨bF5.drew, bX5.drew, bY5.drew, hr.keep hb05.drew (Nat.le_refl _), hr'.keep hb05.drew (Nat.le_refl _), hb05.drew, ⟨bF5.lt, bX5.lt, bY5.lt⟩, Nat.le_refl _⟩
      clear K5 bF5 bX5 bY5 hb05 HB5
      generalize w5.heap.size = Bq at J0 hs5
      refine wp_region_held_drew (S := fun W : World => W.cell? ⟨w.heap.size, 0, none⟩ = some (.int .i64 s1) ∧ W.cell? ⟨w.heap.size, 1, none⟩ = some (.int .i64 s2) ∧ W.cell? ⟨w.heap.size, 2, none⟩ = some (.int .i64 s3) ∧ W.cell? ⟨w.heap.size, 3, none⟩ = some (.int .i64 s4) ∧ W.cell? ⟨w.heap.size, 4, none⟩ = some (.int .i64 s5)) (by kernel_rfl) J0.five (fun hS => ?_)
      generalize w5.drew = v0 at *
      refine wpAnyH_take (i := 0) (v := .slice A n c) rfl (by kernel_rfl) (by kernel_rfl) (by kernel_rfl) (fun _ _ _ h => h) (Or.inl ⟨by rfl, fun w _ => by go_simp⟩) (by assumption) ?_
      simp only [List.getElem_toArray, List.getElem_cons_zero, Act.put, List.setIfInBounds_toArray, List.set_cons_zero, List.set_cons_succ]
      refine wpAnyH_take (i := 2) (v := .slice A' n' c') rfl (by kernel_rfl) (by kernel_rfl) (by kernel_rfl) (fun _ _ _ h => h) (Or.inl ⟨by rfl, fun w _ => by go_simp⟩) (by assumption) ?_
      simp only [List.getElem_toArray, List.getElem_cons_zero, List.getElem_cons_succ, Act.put, List.setIfInBounds_toArray, List.set_cons_zero, List.set_cons_succ]
      refine wpAnyH_take (i := 4) (v := .agg #[.int .i64 s1, .int .i64 s2, .int .i64 s3, .int .i64 s4, .int .i64 s5]) rfl (by kernel_rfl) (by kernel_rfl) (by kernel_rfl) (fun _ _ _ h => h) (Or.inl ⟨by rfl, fun w h => by obtain ⟨h0, h1, h2, h3, h4⟩ := h; go_simp⟩) (by assumption) ?_
      simp only [List.getElem_toArray, List.getElem_cons_zero, List.getElem_cons_succ, Act.put, List.setIfInBounds_toArray, List.set_cons_zero, List.set_cons_succ]
      refine wpAnyH_ready (rs := [1, 10]) (by kernel_rfl) (by simp) ?_
      refine AllReadyH.cons rfl (fun K hKK => ?_) (AllReadyH.cons rfl (fun K hKK => ?_) AllReadyH.nil)
      · go_simp
        refine (rLent_any w.heap.size A n c l v0 J0.r1 (by omega)).mono ?_
        rintro e v1 ⟨A6, c6, rfl, ho6, hb6⟩
        have J1 := J0.keep hb6
        have hb6s := hb6.size
        have hq6 := J0.sz
        refine hKK.out _ _ J1.five (fun hS1 => ?_)
        clear hKK
        refine wpAnyH_ready (rs := [3, 10]) (by kernel_rfl) (by simp) ?_
        refine AllReadyH.cons rfl (fun K hKK => ?_) (AllReadyH.cons rfl (fun K hKK => ?_) AllReadyH.nil)
        · obtain ⟨A7, c7, v2, hrun, ho7, hg7⟩ := run_append_ins _ 22 _ n l ho6 w.heap.size A' n' c' l' J1.r2 (by omega) (by omega)
          have HRUN := hide hrun
          clear hrun
          have J2 := J1.keepB ((Below.refl _ _).grown hg7 (by omega) (fun k hk => (ho6.lt k hk).1)) (by omega)
          refine step_append_ins rfl (.tmp 48) (.tmp 49) rfl _ _ rfl rfl _ v2 HRUN.out ?_
          refine hKK.out _ _ J2.five (fun hS3 => ?_)
          clear hKK
          refine wpAnyH_ready (rs := [5, 10]) (by kernel_rfl) (by simp) ?_
          refine AllReadyH.cons rfl (fun K hKK => ?_) (AllReadyH.cons rfl (fun K hKK => ?_) AllReadyH.nil)
          · go_simp
            refine (Check_any ⟨s1, s2, s3, s4, s5⟩ v2.heap.size A7 (n + n') c7 (l ++ l') v2 (RowI.of_own ho7 (fun i hi => by rcases List.mem_append.1 hi with h | h; exact hr.oks i h; exact hr'.oks i h)) (Nat.le_refl _)).mono ?_
            intro e v3 hk
            obtain ⟨rfl, hb8⟩ := checked_is hk HD2.out
            clear hk
            have J3 := J2.keep hb8
            refine hKK.out _ _ J3.five (fun hS5 => ?_)
            clear hKK
            refine wpAnyH_take (i := 6) (v := .tuple #[.agg #[.int .i64 D2, .int .i64 F2], .int .i64 0, .int .i64 at2]) rfl (by kernel_rfl) (by kernel_rfl) (by kernel_rfl) (fun _ _ _ h => h) (Or.inl ⟨by rfl, fun w _ => by go_simp⟩) (by assumption) ?_
            simp only [List.getElem_toArray, List.getElem_cons_zero, List.getElem_cons_succ, Act.put, List.setIfInBounds_toArray, List.set_cons_zero, List.set_cons_succ]
            refine wpAnyH_take (i := 7) (v := .agg #[.int .i64 D2, .int .i64 F2]) rfl (by kernel_rfl) (by kernel_rfl) (by kernel_rfl) (fun _ _ _ h => h) (Or.inl ⟨by rfl, fun w _ => by go_simp⟩) (by assumption) ?_
            simp only [List.getElem_toArray, List.getElem_cons_zero, List.getElem_cons_succ, Act.put, List.setIfInBounds_toArray, List.set_cons_zero, List.set_cons_succ]
            refine wpAnyH_take (i := 8) (v := .int .i64 0) rfl (by kernel_rfl) (by kernel_rfl) (by kernel_rfl) (fun _ _ _ h => h) (Or.inl ⟨by rfl, fun w _ => by go_simp⟩) (by assumption) ?_
            simp only [List.getElem_toArray, List.getElem_cons_zero, List.getElem_cons_succ, Act.put, List.setIfInBounds_toArray, List.set_cons_zero, List.set_cons_succ]
            refine wpAnyH_take (i := 9) (v := .int .i64 at2) rfl (by kernel_rfl) (by kernel_rfl) (by kernel_rfl) (fun _ _ _ h => h) (Or.inl ⟨by rfl, fun w _ => by go_simp⟩) (by assumption) ?_
            simp only [List.getElem_toArray, List.getElem_cons_zero, List.getElem_cons_succ, Act.put, List.setIfInBounds_toArray, List.set_cons_zero, List.set_cons_succ]
            refine wpAnyH_ready (rs := [10]) (by kernel_rfl) (by simp) ?_
            refine AllReadyH.cons rfl (fun K hKK => ?_) AllReadyH.nil
            go_simp
            have J4 := J3.alloc (.cells #[.int .i64 0, .int .i64 0] 28)
            have b13 := Blk.new v3 28 [.int .i64 0, .int .i64 0]
            have hq13 := J3.sz
            have hsA := (below_box v3 (.cells #[.int .i64 0, .int .i64 0] 28)).size
            generalize v3.alloc (.cells #[.int .i64 0, .int .i64 0] 28) = v4 at J4 b13 hsA ⊢
            generalize v3.heap.size = q13 at b13 hq13 hsA ⊢
            refine hKK.out _ _ J4.five (fun hS10 => ?_)
            clear hKK
            refine wpAnyH_ready (rs := [11]) (by kernel_rfl) (by simp) ?_
            refine AllReadyH.cons rfl (fun K hKK => ?_) AllReadyH.nil
            have c130 := b13.cell (j := 0) rfl
            have c131 := b13.cell (j := 1) rfl
            have f130 := b13.frozen 0
            have f131 := b13.frozen 1
            go_simp
            have J5 := J4.set hq13 (.int .i64 D2) (.int .i64 F2)
            have b14 := (b13.set 0 (.int .i64 D2)).set 1 (.int .i64 F2)
            generalize (v4.setCell ⟨q13, 0, none⟩ (.int .i64 D2)).setCell ⟨q13, 1, none⟩ (.int .i64 F2) = v5 at J5 b14 ⊢
            clear c130 c131 f130 f131 b13
            refine hKK.out _ _ J5.five (fun hS11 => ?_)
            clear hKK
            refine wpAnyH_take (i := 12) (v := .int .i64 0) rfl (by kernel_rfl) (by kernel_rfl) (by kernel_rfl) (fun _ _ _ h => h) (Or.inl ⟨by rfl, fun w _ => by go_simp⟩) (by assumption) ?_
            simp only [List.getElem_toArray, List.getElem_cons_zero, List.getElem_cons_succ, Act.put, List.setIfInBounds_toArray, List.set_cons_zero, List.set_cons_succ]
            refine wpAnyH_take (i := 13) (v := .int .i64 at2) rfl (by kernel_rfl) (by kernel_rfl) (by kernel_rfl) (fun _ _ _ h => h) (Or.inl ⟨by rfl, fun w _ => by go_simp⟩) (by assumption) ?_
            simp only [List.getElem_toArray, List.getElem_cons_zero, List.getElem_cons_succ, Act.put, List.setIfInBounds_toArray, List.set_cons_zero, List.set_cons_succ]
            refine wpAnyH_done (by kernel_rfl) ?_ _
            have cz0 := b14.cell (j := 0) rfl
            have cz1 := b14.cell (j := 1) rfl
            have cx0 := J5.bX.cell (j := 0) rfl
            have cx1 := J5.bX.cell (j := 1) rfl
            have cy0 := J5.bY.cell (j := 0) rfl
            have cy1 := J5.bY.cell (j := 1) rfl
            go_wp2_with (go_at_call 8; refine (known_any _).mono ?_; rintro e wk ⟨rfl, hbk⟩)
            go_ret
            exact ⟨rfl, J5.bl.trans (hbk.mono J5.bl.size)⟩
          · go_simp
            have J3 := J2.alloc (.cells #[.int .i64 0, .int .i64 0] 28)
            have b13 := Blk.new v2 28 [.int .i64 0, .int .i64 0]
            have hq13 := J2.sz
            have hsA := (below_box v2 (.cells #[.int .i64 0, .int .i64 0] 28)).size
            have ho7A := ho7.alloc (.cells #[.int .i64 0, .int .i64 0] 28)
            generalize v2.alloc (.cells #[.int .i64 0, .int .i64 0] 28) = v3 at J3 b13 hsA ho7A ⊢
            generalize v2.heap.size = q13 at b13 hq13 hsA ⊢
            refine hKK.out _ _ J3.five (fun hS10 => ?_)
            clear hKK
            refine wpAnyH_ready (rs := [5]) (by kernel_rfl) (by simp) ?_
            refine AllReadyH.cons rfl (fun K hKK => ?_) AllReadyH.nil
            go_simp
            refine (Check_any ⟨s1, s2, s3, s4, s5⟩ v3.heap.size A7 (n + n') c7 (l ++ l') v3 (RowI.of_own ho7A (fun i hi => by rcases List.mem_append.1 hi with h | h; exact hr.oks i h; exact hr'.oks i h)) (Nat.le_refl _)).mono ?_
            intro e v4 hk
            obtain ⟨rfl, hb8⟩ := checked_is hk HD2.out
            clear hk
            have J4 := J3.keep hb8
            replace b13 := b13.keep hb8 b13.lt
            refine hKK.out _ _ J4.five (fun hS5 => ?_)
            clear hKK
            refine wpAnyH_take (i := 6) (v := .tuple #[.agg #[.int .i64 D2, .int .i64 F2], .int .i64 0, .int .i64 at2]) rfl (by kernel_rfl) (by kernel_rfl) (by kernel_rfl) (fun _ _ _ h => h) (Or.inl ⟨by rfl, fun w _ => by go_simp⟩) (by assumption) ?_
            simp only [List.getElem_toArray, List.getElem_cons_zero, List.getElem_cons_succ, Act.put, List.setIfInBounds_toArray, List.set_cons_zero, List.set_cons_succ]
            refine wpAnyH_take (i := 7) (v := .agg #[.int .i64 D2, .int .i64 F2]) rfl (by kernel_rfl) (by kernel_rfl) (by kernel_rfl) (fun _ _ _ h => h) (Or.inl ⟨by rfl, fun w _ => by go_simp⟩) (by assumption) ?_
            simp only [List.getElem_toArray, List.getElem_cons_zero, List.getElem_cons_succ, Act.put, List.setIfInBounds_toArray, List.set_cons_zero, List.set_cons_succ]
            refine wpAnyH_take (i := 8) (v := .int .i64 0) rfl (by kernel_rfl) (by kernel_rfl) (by kernel_rfl) (fun _ _ _ h => h) (Or.inl ⟨by rfl, fun w _ => by go_simp⟩) (by assumption) ?_
            simp only [List.getElem_toArray, List.getElem_cons_zero, List.getElem_cons_succ, Act.put, List.setIfInBounds_toArray, List.set_cons_zero, List.set_cons_succ]
            refine wpAnyH_take (i := 9) (v := .int .i64 at2) rfl (by kernel_rfl) (by kernel_rfl) (by kernel_rfl) (fun _ _ _ h => h) (Or.inl ⟨by rfl, fun w _ => by go_simp⟩) (by assumption) ?_
            simp only [List.getElem_toArray, List.getElem_cons_zero, List.getElem_cons_succ, Act.put, List.setIfInBounds_toArray, List.set_cons_zero, List.set_cons_succ]
            refine wpAnyH_ready (rs := [11]) (by kernel_rfl) (by simp) ?_
            refine AllReadyH.cons rfl (fun K hKK => ?_) AllReadyH.nil
            have c130 := b13.cell (j := 0) rfl
            have c131 := b13.cell (j := 1) rfl
            have f130 := b13.frozen 0
            have f131 := b13.frozen 1
            go_simp
            have J5 := J4.set hq13 (.int .i64 D2) (.int .i64 F2)
            have b14 := (b13.set 0 (.int .i64 D2)).set 1 (.int .i64 F2)
            generalize (v4.setCell ⟨q13, 0, none⟩ (.int .i64 D2)).setCell ⟨q13, 1, none⟩ (.int .i64 F2) = v5 at J5 b14 ⊢
            clear c130 c131 f130 f131 b13
            refine hKK.out _ _ J5.five (fun hS11 => ?_)
            clear hKK
            refine wpAnyH_take (i := 12) (v := .int .i64 0) rfl (by kernel_rfl) (by kernel_rfl) (by kernel_rfl) (fun _ _ _ h => h) (Or.inl ⟨by rfl, fun w _ => by go_simp⟩) (by assumption) ?_
            simp only [List.getElem_toArray, List.getElem_cons_zero, List.getElem_cons_succ, Act.put, List.setIfInBounds_toArray, List.set_cons_zero, List.set_cons_succ]
            refine wpAnyH_take (i := 13) (v := .int .i64 at2) rfl (by kernel_rfl) (by kernel_rfl) (by kernel_rfl) (fun _ _ _ h => h) (Or.inl ⟨by rfl, fun w _ => by go_simp⟩) (by assumption) ?_
            simp only [List.getElem_toArray, List.getElem_cons_zero, List.getElem_cons_succ, Act.put, List.setIfInBounds_toArray, List.set_cons_zero, List.set_cons_succ]
            refine wpAnyH_done (by kernel_rfl) ?_ _
            have cz0 := b14.cell (j := 0) rfl
            have cz1 := b14.cell (j := 1) rfl
            have cx0 := J5.bX.cell (j := 0) rfl
            have cx1 := J5.bX.cell (j := 1) rfl
            have cy0 := J5.bY.cell (j := 0) rfl
            have cy1 := J5.bY.cell (j := 1) rfl
            go_wp2_with (go_at_call 8; refine (known_any _).mono ?_; rintro e wk ⟨rfl, hbk⟩)
            go_ret
            exact ⟨rfl, J5.bl.trans (hbk.mono J5.bl.size)⟩
        · go_simp
          have J2 := J1.alloc (.cells #[.int .i64 0, .int .i64 0] 28)
          have b13 := Blk.new v1 28 [.int .i64 0, .int .i64 0]
          have hq13 := J1.sz
          have hsA := (below_box v1 (.cells #[.int .i64 0, .int .i64 0] 28)).size
          have ho6A := ho6.alloc (.cells #[.int .i64 0, .int .i64 0] 28)
          have hlo := fun k hk => (ho6.lt k hk).2
          generalize v1.alloc (.cells #[.int .i64 0, .int .i64 0] 28) = v2 at J2 b13 hsA ho6A ⊢
          generalize v1.heap.size = q13 at b13 hq13 hsA hb6s hlo ⊢
          refine hKK.out _ _ J2.five (fun hS10 => ?_)
          clear hKK
          refine wpAnyH_ready (rs := [3]) (by kernel_rfl) (by simp) ?_
          refine AllReadyH.cons rfl (fun K hKK => ?_) AllReadyH.nil
          obtain ⟨A7, c7, v3, hrun, ho7, hg7⟩ := run_append_ins _ 22 _ n l ho6A w.heap.size A' n' c' l' J2.r2 (by omega) (by omega)
          have HRUN := hide hrun
          clear hrun
          have J3 := J2.keepB ((Below.refl _ _).grown hg7 (by omega) (fun k hk => (ho6A.lt k hk).1)) (by omega)
          replace b13 : Blk v3 q13 28 [.int .i64 0, .int .i64 0] := (hg7.block q13 b13.lt (fun e => by have := hlo q13 e.symm; omega)).trans b13
          refine step_append_ins rfl (.tmp 48) (.tmp 49) rfl _ _ rfl rfl _ v3 HRUN.out ?_
          refine hKK.out _ _ J3.five (fun hS3 => ?_)
          clear hKK
          refine wpAnyH_ready (rs := [5]) (by kernel_rfl) (by simp) ?_
          refine AllReadyH.cons rfl (fun K hKK => ?_) AllReadyH.nil
          go_simp
          refine (Check_any ⟨s1, s2, s3, s4, s5⟩ v3.heap.size A7 (n + n') c7 (l ++ l') v3 (RowI.of_own ho7 (fun i hi => by rcases List.mem_append.1 hi with h | h; exact hr.oks i h; exact hr'.oks i h)) (Nat.le_refl _)).mono ?_
          intro e v4 hk
          obtain ⟨rfl, hb8⟩ := checked_is hk HD2.out
          clear hk
          have J4 := J3.keep hb8
          replace b13 := b13.keep hb8 b13.lt
          refine hKK.out _ _ J4.five (fun hS5 => ?_)
          clear hKK
          refine wpAnyH_take (i := 6) (v := .tuple #[.agg #[.int .i64 D2, .int .i64 F2], .int .i64 0, .int .i64 at2]) rfl (by kernel_rfl) (by kernel_rfl) (by kernel_rfl) (fun _ _ _ h => h) (Or.inl ⟨by rfl, fun w _ => by go_simp⟩) (by assumption) ?_
          simp only [List.getElem_toArray, List.getElem_cons_zero, List.getElem_cons_succ, Act.put, List.setIfInBounds_toArray, List.set_cons_zero, List.set_cons_succ]
          refine wpAnyH_take (i := 7) (v := .agg #[.int .i64 D2, .int .i64 F2]) rfl (by kernel_rfl) (by kernel_rfl) (by kernel_rfl) (fun _ _ _ h => h) (Or.inl ⟨by rfl, fun w _ => by go_simp⟩) (by assumption) ?_
          simp only [List.getElem_toArray, List.getElem_cons_zero, List.getElem_cons_succ, Act.put, List.setIfInBounds_toArray, List.set_cons_zero, List.set_cons_succ]
          refine wpAnyH_take (i := 8) (v := .int .i64 0) rfl (by kernel_rfl) (by kernel_rfl) (by kernel_rfl) (fun _ _ _ h => h) (Or.inl ⟨by rfl, fun w _ => by go_simp⟩) (by assumption) ?_
          simp only [List.getElem_toArray, List.getElem_cons_zero, List.getElem_cons_succ, Act.put, List.setIfInBounds_toArray, List.set_cons_zero, List.set_cons_succ]
          refine wpAnyH_take (i := 9) (v := .int .i64 at2) rfl (by kernel_rfl) (by kernel_rfl) (by kernel_rfl) (fun _ _ _ h => h) (Or.inl ⟨by rfl, fun w _ => by go_simp⟩) (by assumption) ?_
          simp only [List.getElem_toArray, List.getElem_cons_zero, List.getElem_cons_succ, Act.put, List.setIfInBounds_toArray, List.set_cons_zero, List.set_cons_succ]
          refine wpAnyH_ready (rs := [11]) (by kernel_rfl) (by simp) ?_
          refine AllReadyH.cons rfl (fun K hKK => ?_) AllReadyH.nil
          have c130 := b13.cell (j := 0) rfl
          have c131 := b13.cell (j := 1) rfl
          have f130 := b13.frozen 0
          have f131 := b13.frozen 1
          go_simp
          have J5 := J4.set hq13 (.int .i64 D2) (.int .i64 F2)
          have b14 := (b13.set 0 (.int .i64 D2)).set 1 (.int .i64 F2)
          generalize (v4.setCell ⟨q13, 0, none⟩ (.int .i64 D2)).setCell ⟨q13, 1, none⟩ (.int .i64 F2) = v5 at J5 b14 ⊢
          clear c130 c131 f130 f131 b13
          refine hKK.out _ _ J5.five (fun hS11 => ?_)
          clear hKK
          refine wpAnyH_take (i := 12) (v := .int .i64 0) rfl (by kernel_rfl) (by kernel_rfl) (by kernel_rfl) (fun _ _ _ h => h) (Or.inl ⟨by rfl, fun w _ => by go_simp⟩) (by assumption) ?_
          simp only [List.getElem_toArray, List.getElem_cons_zero, List.getElem_cons_succ, Act.put, List.setIfInBounds_toArray, List.set_cons_zero, List.set_cons_succ]
          refine wpAnyH_take (i := 13) (v := .int .i64 at2) rfl (by kernel_rfl) (by kernel_rfl) (by kernel_rfl) (fun _ _ _ h => h) (Or.inl ⟨by rfl, fun w _ => by go_simp⟩) (by assumption) ?_
          simp only [List.getElem_toArray, List.getElem_cons_zero, List.getElem_cons_succ, Act.put, List.setIfInBounds_toArray, List.set_cons_zero, List.set_cons_succ]
          refine wpAnyH_done (by kernel_rfl) ?_ _
          have cz0 := b14.cell (j := 0) rfl
          have cz1 := b14.cell (j := 1) rfl
          have cx0 := J5.bX.cell (j := 0) rfl
          have cx1 := J5.bX.cell (j := 1) rfl
          have cy0 := J5.bY.cell (j := 0) rfl
          have cy1 := J5.bY.cell (j := 1) rfl
          go_wp2_with (go_at_call 8; refine (known_any _).mono ?_; rintro e wk ⟨rfl, hbk⟩)
          go_ret
          exact ⟨rfl, J5.bl.trans (hbk.mono J5.bl.size)⟩
      · go_simp
        have J1 := J0.alloc (.cells #[.int .i64 0, .int .i64 0] 28)
        have b13 := Blk.new v0 28 [.int .i64 0, .int .i64 0]
        have hq13 := J0.sz
        have hsA := (below_box v0 (.cells #[.int .i64 0, .int .i64 0] 28)).size
        generalize v0.alloc (.cells #[.int .i64 0, .int .i64 0] 28) = v1 at J1 b13 hsA ⊢
        generalize v0.heap.size = q13 at b13 hq13 hsA ⊢
        refine hKK.out _ _ J1.five (fun hS10 => ?_)
        clear hKK
        have hb13 := b13.lt
        refine wpAnyH_ready (rs := [1]) (by kernel_rfl) (by simp) ?_
        refine AllReadyH.cons rfl (fun K hKK => ?_) AllReadyH.nil
        go_simp
        refine (rLent_any w.heap.size A n c l v1 J1.r1 (by omega)).mono ?_
        rintro e v2 ⟨A6, c6, rfl, ho6, hb6⟩
        have J2 := J1.keep hb6
        have hb6s := hb6.size
        have hq6 := J1.sz
        replace b13 := b13.keep hb6 b13.lt
        refine hKK.out _ _ J2.five (fun hS1 => ?_)
        clear hKK
        refine wpAnyH_ready (rs := [3]) (by kernel_rfl) (by simp) ?_
        refine AllReadyH.cons rfl (fun K hKK => ?_) AllReadyH.nil
        obtain ⟨A7, c7, v3, hrun, ho7, hg7⟩ := run_append_ins _ 22 _ n l ho6 w.heap.size A' n' c' l' J2.r2 (by omega) (by omega)
        have HRUN := hide hrun
        clear hrun
        have J3 := J2.keepB ((Below.refl _ _).grown hg7 (by omega) (fun k hk => (ho6.lt k hk).1)) (by omega)
        replace b13 := b13.keep ((Below.refl _ _).grown hg7 (by omega) (fun k hk => (ho6.lt k hk).1)) hb13
        refine step_append_ins rfl (.tmp 48) (.tmp 49) rfl _ _ rfl rfl _ v3 HRUN.out ?_
        refine hKK.out _ _ J3.five (fun hS3 => ?_)
        clear hKK
        refine wpAnyH_ready (rs := [5]) (by kernel_rfl) (by simp) ?_
        refine AllReadyH.cons rfl (fun K hKK => ?_) AllReadyH.nil
        go_simp
        refine (Check_any ⟨s1, s2, s3, s4, s5⟩ v3.heap.size A7 (n + n') c7 (l ++ l') v3 (RowI.of_own ho7 (fun i hi => by rcases List.mem_append.1 hi with h | h; exact hr.oks i h; exact hr'.oks i h)) (Nat.le_refl _)).mono ?_
        intro e v4 hk
        obtain ⟨rfl, hb8⟩ := checked_is hk HD2.out
        clear hk
        have J4 := J3.keep hb8
        replace b13 := b13.keep hb8 b13.lt
        refine hKK.out _ _ J4.five (fun hS5 => ?_)
        clear hKK
        refine wpAnyH_take (i := 6) (v := .tuple #[.agg #[.int .i64 D2, .int .i64 F2], .int .i64 0, .int .i64 at2]) rfl (by kernel_rfl) (by kernel_rfl) (by kernel_rfl) (fun _ _ _ h => h) (Or.inl ⟨by rfl, fun w _ => by go_simp⟩) (by assumption) ?_
        simp only [List.getElem_toArray, List.getElem_cons_zero, List.getElem_cons_succ, Act.put, List.setIfInBounds_toArray, List.set_cons_zero, List.set_cons_succ]
        refine wpAnyH_take (i := 7) (v := .agg #[.int .i64 D2, .int .i64 F2]) rfl (by kernel_rfl) (by kernel_rfl) (by kernel_rfl) (fun _ _ _ h => h) (Or.inl ⟨by rfl, fun w _ => by go_simp⟩) (by assumption) ?_
        simp only [List.getElem_toArray, List.getElem_cons_zero, List.getElem_cons_succ, Act.put, List.setIfInBounds_toArray, List.set_cons_zero, List.set_cons_succ]
        refine wpAnyH_take (i := 8) (v := .int .i64 0) rfl (by kernel_rfl) (by kernel_rfl) (by kernel_rfl) (fun _ _ _ h => h) (Or.inl ⟨by rfl, fun w _ => by go_simp⟩) (by assumption) ?_
        simp only [List.getElem_toArray, List.getElem_cons_zero, List.getElem_cons_succ, Act.put, List.setIfInBounds_toArray, List.set_cons_zero, List.set_cons_succ]
        refine wpAnyH_take (i := 9) (v := .int .i64 at2) rfl (by kernel_rfl) (by kernel_rfl) (by kernel_rfl) (fun _ _ _ h => h) (Or.inl ⟨by rfl, fun w _ => by go_simp⟩) (by assumption) ?_
        simp only [List.getElem_toArray, List.getElem_cons_zero, List.getElem_cons_succ, Act.put, List.setIfInBounds_toArray, List.set_cons_zero, List.set_cons_succ]
        refine wpAnyH_ready (rs := [11]) (by kernel_rfl) (by simp) ?_
        refine AllReadyH.cons rfl (fun K hKK => ?_) AllReadyH.nil
        have c130 := b13.cell (j := 0) rfl
        have c131 := b13.cell (j := 1) rfl
        have f130 := b13.frozen 0
        have f131 := b13.frozen 1
        go_simp
        have J5 := J4.set hq13 (.int .i64 D2) (.int .i64 F2)
        have b14 := (b13.set 0 (.int .i64 D2)).set 1 (.int .i64 F2)
        generalize (v4.setCell ⟨q13, 0, none⟩ (.int .i64 D2)).setCell ⟨q13, 1, none⟩ (.int .i64 F2) = v5 at J5 b14 ⊢
        clear c130 c131 f130 f131 b13
        refine hKK.out _ _ J5.five (fun hS11 => ?_)
        clear hKK
        refine wpAnyH_take (i := 12) (v := .int .i64 0) rfl (by kernel_rfl) (by kernel_rfl) (by kernel_rfl) (fun _ _ _ h => h) (Or.inl ⟨by rfl, fun w _ => by go_simp⟩) (by assumption) ?_
        simp only [List.getElem_toArray, List.getElem_cons_zero, List.getElem_cons_succ, Act.put, List.setIfInBounds_toArray, List.set_cons_zero, List.set_cons_succ]
        refine wpAnyH_take (i := 13) (v := .int .i64 at2) rfl (by kernel_rfl) (by kernel_rfl) (by kernel_rfl) (fun _ _ _ h => h) (Or.inl ⟨by rfl, fun w _ => by go_simp⟩) (by assumption) ?_
        simp only [List.getElem_toArray, List.getElem_cons_zero, List.getElem_cons_succ, Act.put, List.setIfInBounds_toArray, List.set_cons_zero, List.set_cons_succ]
        refine wpAnyH_done (by kernel_rfl) ?_ _
        have cz0 := b14.cell (j := 0) rfl
        have cz1 := b14.cell (j := 1) rfl
        have cx0 := J5.bX.cell (j := 0) rfl
        have cx1 := J5.bX.cell (j := 1) rfl
        have cy0 := J5.bY.cell (j := 0) rfl
        have cy1 := J5.bY.cell (j := 1) rfl
        go_wp2_with (go_at_call 8; refine (known_any _).mono ?_; rintro e wk ⟨rfl, hbk⟩)
        go_ret
        exact ⟨rfl, J5.bl.trans (hbk.mono J5.bl.size)⟩
    · rcases (show er ≠ 0 ∨ (er = 0 ∧ er' ≠ 0) by omega) with h1 | ⟨h1, h2⟩
      · have h1' : (er != 0) = true := by simpa using h1
        clear hz h1
        go_wp2_with (go_at_call 8; refine (known_any _).mono ?_; rintro e wk ⟨rfl, hbk⟩)
        go_ret
        exact ⟨rfl, HB5.out.trans (hbk.mono HB5.out.size)⟩
      · have h2' : (er' != 0) = true := by simpa using h2
        subst h1
        clear hz h2
        go_wp2_with (go_at_call 8; refine (known_any _).mono ?_; rintro e wk ⟨rfl, hbk⟩)
        go_ret
        exact ⟨rfl, HB5.out.trans (hbk.mono HB5.out.size)⟩
end Go.Proofs.Ytllmhgikaijnhaa
