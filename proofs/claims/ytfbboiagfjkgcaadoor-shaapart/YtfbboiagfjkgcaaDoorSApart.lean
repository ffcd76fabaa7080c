/-
  The statement ShaApart: each call returns true and changes nothing that was there.
-/
import Derived.Test.YtfbboiagfjkgcaaDoorSLit
import Derived.Test.YtfbboiagfjkgcaaDoorSSpoil
import Derived.Deep.RegionHeld3
namespace Go.Proofs.YtfbboiagfjkgcaaDoor
open Go.RowKit
set_option maxHeartbeats 4000000

theorem Blk.range {w : World} {g : Nat} {t : TypeId} {cs : List Value} (h : Blk w g t cs) : w.rangeAt g 0 cs := fun j v hv => by rw [Nat.zero_add]; exact h.cell hv
theorem apart_big (A A' : Option Addr) (n c n' c' : Nat) (w : World) (hK : KT w.heap.size w) (h : 16384 < n ∨ 16384 < n') :
    Calls Tryd.prog 8 #[.slice A n c, .slice A' n' c'] w fun e w' => e = .returned (.bool true) ∧ Below w.heap.size w w' := by
  by_cases h1 : 16384 < n
  · have hd : decide ((16384 : Int) < (n : Int)) = true := by simp; omega
    clear h
    go_enter Tryd.func8, Tryd.ntmps8
    go_wp2_with (go_at_call 9; refine (known_any _ _ (Nat.le_refl _) hK).mono ?_; rintro e w1 ⟨rfl, hb1⟩)
    go_ret
    exact ⟨rfl, hb1⟩
  · have hd : decide ((16384 : Int) < (n : Int)) = false := by simp; omega
    have hd2 : decide ((16384 : Int) < (n' : Int)) = true := by simp; omega
    clear h
    go_enter Tryd.func8, Tryd.ntmps8
    go_wp2_with (go_at_call 9; refine (known_any _ _ (Nat.le_refl _) hK).mono ?_; rintro e w1 ⟨rfl, hb1⟩)
    go_ret
    exact ⟨rfl, hb1⟩
/-- What a row of the call's own is made of. -/
theorem own_parts {w : World} {base n c : Nat} {A : Option Addr} {l : List UInt8} (h : w.ownsRow base 5 1 (.slice A n c) n (cs8 l)) :
    (A = none ∧ n = 0 ∧ c = 0) ∨ ∃ g cs, A = some ⟨g, 0, none⟩ ∧ base ≤ g ∧ Blk w g 5 cs ∧ cs.length = c ∧ n ≤ c ∧ c ≤ maxLen ∧ cs.take n = cs8 l := by
  rcases h.2 with ⟨hv, rfl⟩ | ⟨g, cap, cur, hv, hb, hg, hnc, hcm, hcs, ht⟩
  · obtain ⟨rfl, _, rfl⟩ : A = none ∧ 0 = 0 ∧ c = 0 := by simpa using hv
    exact .inl ⟨rfl, rfl, rfl⟩
  · obtain ⟨rfl, rfl⟩ : A = some ⟨g, 0, none⟩ ∧ c = cap := by simpa using hv
    exact .inr ⟨g, cur.toList, rfl, hb, by unfold Blk; rw [Array.toArray_toList]; exact hg, by simpa using hcs, hnc, hcm, by simpa using ht⟩
theorem row_of_blk {w : World} {g n c : Nat} {cs : List Value} {l : List UInt8} (h : Blk w g 5 cs) (hn : n ≤ c) (hc : c ≤ maxLen) (ht : cs.take n = cs8 l) (hl : l.length = n) : Row w w.heap.size (some ⟨g, 0, none⟩) n c (cs8 l) :=
  ⟨by rw [cs8_len]; exact hl, hn, hc, (fun e => by cases e), fun _ => ⟨g, 0, rfl, h.lt, fun j u hu => by
    rw [Nat.zero_add]
    refine h.cell ?_
    rw [← ht, List.getElem?_take] at hu
    split at hu
    · exact hu
    · cases hu⟩⟩
theorem tail_val (A : Option Addr) (N c lo : Nat) (h : lo ≤ N) (W : World) : (Instr.slice 24 (.slice A N c) (some (.int .i64 (lo : Int))) none none).run Tryd.prog W = .ok (.slice (if c = lo then A else A.map (·.add lo)) (N - lo) (c - lo)) W := by
  have he : Tryd.prog.elem 24 = 5 := by simp [Program.elem, Tryd.underlying24]
  have hs : ∀ W, (Go.sizeOf 5).run Tryd.prog W = .ok 1 W := by
    intro W
    obtain ⟨i, hi, h1⟩ := Option.map_eq_some_iff.1 size8
    simp [sizeOf, typeInfo, hi, h1]
  rw [run_slice_l W 24 A N c (by rw [he]; exact Tryd.underlying24) .i64 lo (by omega) (by omega), he, hs]
  simp [Result.andThen, Go.sliced]
def SP (w w4 : World) (A5 : Option Addr) (n c5 : Nat) (l : List UInt8) (w' : World) (e : Ending) (w'' : World) : Prop :=
  e = .returned (.tuple #[]) ∧ Below w.heap.size w' w'' ∧ Row w'' w''.heap.size A5 n c5 (cs8 l) ∧ ∀ k, w4.heap.size ≤ k → k < w'.heap.size → w''.heap[k]? = w'.heap[k]?
theorem apart_parts (A4 : Option Addr) (n n' c4 : Nat) (l x : List UInt8) (w w4 : World) (hl : l.length = n) (hxl : x.length = n') (ho : w4.ownsRow w.heap.size 5 1 (.slice A4 (n + n') c4) (n + n') (cs8 (l ++ x))) (hb : Below w.heap.size w w4) (hn' : n' ≤ 16384) :
    ∃ A5 c5 A6 c6, (∀ W, (Instr.slice 24 (.slice A4 (n + n') c4) none (some (.int .i64 (n : Int))) none).run Tryd.prog W = .ok (.slice A5 n c5) W) ∧ Row w4 w4.heap.size A5 n c5 (cs8 l) ∧
      (∀ W, (Instr.slice 24 (.slice A4 (n + n') c4) (some (.int .i64 (n : Int))) none none).run Tryd.prog W = .ok (.slice A6 n' c6) W) ∧
      ∀ w', Below w4.heap.size w4 w' → Calls Tryd.prog 18 #[.slice A6 n' c6] w' (SP w w4 A5 n c5 l w') := by
  have hs := hb.size
  have hcap := own_cap ho
  have htv := fun W => tail_val A4 (n + n') c4 n (by omega) W
  rw [Nat.add_sub_cancel_left] at htv
  rcases own_parts ho with ⟨rfl, h0, rfl⟩ | ⟨g, cs, rfl, hgb, hk, hcl, hnc, hcm, ht⟩
  · obtain rfl : n = 0 := by omega
    obtain rfl : n' = 0 := by omega
    obtain rfl : l = [] := List.eq_nil_of_length_eq_zero hl
    obtain ⟨A5, c5, h5, hr5⟩ := (Row.none_ (w := w4) (B := w4.heap.size)).headed Tryd.underlying24 size8 (hi := 0) (by omega) (0 : Int) rfl
    refine ⟨A5, c5, none, 0, h5, hr5, fun W => by have := htv W; simpa using this, fun w' hw' => ?_⟩
    refine (Spoil_any none 0 0 w'.heap.size [] w' (World.ownsRow_nil _ _ _ _) (Nat.le_refl _) (by omega)).mono ?_
    rintro e w'' ⟨rfl, hg⟩
    have hbw : Below w'.heap.size w' w'' := (Below.refl _ _).grown hg (Nat.le_refl _) (fun k hk => by cases hk)
    exact ⟨rfl, hbw.mono (Nat.le_trans hs hw'.size), ((hr5.keep hw' (Nat.le_refl _)).keep hbw hw'.size).more (Nat.le_trans hw'.size hbw.size), fun k _ hk => hbw.block k hk⟩
  · have hg4 := hk.lt
    have htn : cs.take n = cs8 l := by
      have := congrArg (List.take n) ht
      rw [List.take_take, show min n (n + n') = n by omega, cs8_app, List.take_left' (by rw [cs8_len]; exact hl)] at this
      exact this
    have hI : Ints8 (n + n') cs := fun j hj => by
      have h1 : (cs.take (n + n'))[j]? = cs[j]? := by rw [List.getElem?_take, if_pos hj]
      rw [← h1, ht, cs8_at (by rw [List.length_append]; omega)]
      exact ⟨_, rfl⟩
    refine ⟨some ⟨g, 0, none⟩, c4, if c4 = n then some ⟨g, 0, none⟩ else some ⟨g, n, none⟩, c4 - n, fun W => head_same g (n + n') c4 n (by omega) _ rfl W, row_of_blk hk (by omega) hcm htn hl, fun W => ?_, fun w' hw' => ?_⟩
    · rw [htv W]
      by_cases hc : c4 = n
      · rw [if_pos hc, if_pos hc]
      · rw [if_neg hc, if_neg hc]; simp [Addr.add_lit]
    · have key : ∀ o cap, Outer o cap cs = Outer o cap cs → (∀ k, k < n → k < o ∨ o + cap ≤ k) → ∀ e w'', SpoilPost w' g o cap cs e w'' → SP w w4 (some ⟨g, 0, none⟩) n c4 l w' e w'' := by
        intro o cap _ hout e w'' ⟨he, ⟨cs', hk', hO⟩, hg⟩
        have ht' : cs'.take n = cs8 l := by
          rw [← htn]
          apply List.ext_getElem?
          intro k
          rw [List.getElem?_take, List.getElem?_take]
          by_cases hkn : k < n
          · rw [if_pos hkn, if_pos hkn]; exact hO k (hout k hkn)
          · rw [if_neg hkn, if_neg hkn]
        refine ⟨he, (Below.refl _ _).grown hg (Nat.le_trans hs hw'.size) (fun k hk => by cases hk; exact hgb), row_of_blk hk' (by omega) hcm ht' hl, fun k h1 h2 => hg.block k h2 (fun e => ?_)⟩
        have : k = g := by simpa using e
        omega
      have hkw := hk.keep hw' hg4
      by_cases hc : c4 = n
      · rw [if_pos hc]
        obtain rfl : n' = 0 := by omega
        rw [show c4 - n = 0 by omega]
        exact (Spoil_at g 0 0 0 cs w' hkw (fun j hj => absurd hj (by omega)) (by omega) (by omega) (by omega)).mono (key 0 0 rfl (fun k _ => .inr (by omega)))
      · rw [if_neg hc]
        exact (Spoil_at g n n' (c4 - n) cs w' hkw hI (by omega) (by omega) hn').mono (key n (c4 - n) rfl (fun k hk => .inl hk))
theorem apart_walk (A : Option Addr) (n c : Nat) (l : List UInt8) (A' : Option Addr) (n' c' : Nat) (x : List UInt8) (w : World) (hr : Row w w.heap.size A n c (cs8 l)) (hx : Row w w.heap.size A' n' c' (cs8 x)) (hK : KT w.heap.size w) :
    Calls Tryd.prog 8 #[.slice A n c, .slice A' n' c'] w fun e w' => e = .returned (.bool true) ∧ Below w.heap.size w w' := by
  by_cases hbig : 16384 < n ∨ 16384 < n'
  · exact apart_big A A' n c n' c' w hK hbig
  · obtain ⟨i0, hi, hz0, hz1, hz2⟩ := info_parts info8
    have hn : n ≤ 16384 := by omega
    have hn' : n' ≤ 16384 := by omega
    clear hbig
    have hd : decide ((16384 : Int) < (n : Int)) = false := by simp; omega
    have hd2 : decide ((16384 : Int) < (n' : Int)) = false := by simp; omega
    have HLn : Hid (l.length = n) := by have := hr.len; rwa [cs8_len] at this
    have HXn : Hid (x.length = n') := by have := hx.len; rwa [cs8_len] at this
    obtain ⟨D, HD⟩ : ∃ D, Hid (D = sumL l) := ⟨_, rfl⟩
    have hD32 : D.length = 32 := by rw [HD.out]; exact sumL_len l
    have hDl : (cs8 D).length = 32 := by rw [cs8_len]; exact hD32
    go_enter Tryd.func8, Tryd.ntmps8
    go_wp2_with (first
      | (at_builtin; refine wpList_append_row rfl (.tmp 16) (.tmp 17) 24 rfl w.heap.size 5 i0 _ 1 Tryd.underlying24 hi hz0 hz1 hz2 rfl _ 0 [] rfl (World.ownsRow_nil _ _ _ _) w.heap.size _ _ _ _ rfl hr (cs8_one _) (by unfold maxLen; omega) (by omega) w (Below.refl _ _) (Nat.le_refl _) ?_; intro A3 c3 w3 ho3 hb3 hg3; simp only [Nat.zero_add, List.nil_append] at ho3)
      | (at_builtin; refine wpList_append_row rfl (.tmp 19) (.tmp 20) 24 rfl w.heap.size 5 i0 _ 1 Tryd.underlying24 hi hz0 hz1 hz2 rfl _ _ _ rfl ho3 w.heap.size _ _ _ _ rfl (hx.keep hb3 (Nat.le_refl _)) (cs8_one _) (by unfold maxLen; omega) (by omega) w hb3 (Nat.le_refl _) ?_; intro A4 c4 w4 ho4 hb4 hg4; rw [← cs8_app] at ho4; obtain ⟨A5, c5, A6, c6, h5, hr5, h6, hsp⟩ := apart_parts A4 n n' c4 l x w w4 HLn.out HXn.out ho4 hb4 hn'))
    have hs4 := hb4.size
    clear ho4 ho3 hg3 hg4 hb3
    refine (Sum_any w4.heap.size _ _ _ l w4 hr5 (Nat.le_refl _) ((hK.keep hb4 (Nat.le_refl _)).more hs4) (by omega)).mono ?_
    unfold Sum32
    rw [← HD.out]
    rintro e w5 ⟨rfl, hb5⟩
    have hb05 := hb4.trans (hb5.mono hs4)
    have hs45 := hb5.size
    have hs5 := hb05.size
    go_wp2_with (refine wpList_storeB rfl 37 (.tmp 6) (.tmp 26) rfl w5.heap.size (cs8 D) rfl rfl 37 (cs8 (List.replicate 32 0)) (Blk.at _ _ _ rfl) 32 size32b hDl rfl (cs8_one _) ?_; rw [World.setRow_alloc_new]; have hk6 := Blk.new w5 37 (cs8 D); have hb6 := (Below.refl w5.heap.size w5).alloc (Nat.le_refl _) (.cells (cs8 D).toArray 37 (0, 0)); generalize World.alloc w5 _ = w6 at hk6 hb6 ⊢)
    have hb46 := hb5.trans (hb6.mono hs45)
    have hb06 := hb05.trans (hb6.mono hs5)
    have hs6 := hb06.size
    have hl6 := hk6.lt
    clear hb5 hb6 hb05
    refine (hsp w6 hb46).mono ?_
    rintro e w7 ⟨rfl, hb7, hr7, hk7⟩
    have hb07 := hb06.trans hb7
    have hs7 := hb07.size
    have k67 : Blk w7 w5.heap.size 37 (cs8 D) := (hk7 _ hs45 hl6).trans hk6
    clear hb7 hk7 hb06 hb46 hk6 hsp
    have hq := eq32b D hD32
    have hl67 := hide k67.lt
    have hu37 := Tryd.underlying37
    have hiD : (Tryd.prog.info? 37).map (·.size) = some (cs8 D).length := by rw [hDl]; exact size32b
    go_wp2_with fail
    refine wp_region_held_drew (S := fun w' => w'.rangeAt w5.heap.size 0 (cs8 D)) (by kernel_rfl) k67.drew.range (fun hS0 => ?_)
    refine wpAnyH_take (i := 0) rfl (by kernel_rfl) (by kernel_rfl) (by kernel_rfl) (fun _ _ _ h => h) (yieldsIf_load_mid (by rfl) _ _ rfl _ _ rfl (cs8 D) _ (fun _ h => h) hu37 rfl hiD) (by assumption) ?_
    simp only [List.getElem_toArray, List.getElem_cons_zero, Act.put, List.setIfInBounds_toArray, List.set_cons_zero, List.set_cons_succ]
    refine wpAnyH_take (i := 1) (v := .slice A n c) rfl (by kernel_rfl) (by kernel_rfl) (by kernel_rfl) (fun _ _ _ h => h) (Or.inl ⟨by rfl, fun w _ => by go_simp⟩) (by assumption) ?_
    simp only [List.getElem_toArray, List.getElem_cons_zero, List.getElem_cons_succ, Act.put, List.setIfInBounds_toArray, List.set_cons_zero, List.set_cons_succ]
    refine wpAnyH_ready (rs := [2]) (by kernel_rfl) (by simp) ?_
    refine AllReadyH.cons rfl (fun K hKK => ?_) AllReadyH.nil
    go_simp
    refine (Sum_any w.heap.size A n c l _ ((hr.keep hb07 (Nat.le_refl _)).of_drew) (by simp; omega) ((hK.keep hb07 (Nat.le_refl _)).keep (Below.refl _ _).drew (Nat.le_refl _)) (by omega)).mono ?_
    unfold Sum32
    rw [← HD.out]
    rintro e' w8 ⟨rfl, hb8⟩
    have hb08 := hb07.drew.trans (hb8.mono hs7)
    have k68 := k67.drew.keep hb8 hl67.out
    have hr8 := (hr7.of_drew).keep hb8 (Nat.le_refl _)
    refine hKK.out _ _ k68.range (fun hS2 => ?_)
    clear hKK
    refine wpAnyH_take (i := 3) (v := Value.bool true) rfl (by kernel_rfl) (by kernel_rfl) (by kernel_rfl) (fun _ _ _ h => h) (Or.inl ⟨by rfl, fun w _ => by go_simp⟩) (by assumption) ?_
    simp only [List.getElem_toArray, List.getElem_cons_zero, List.getElem_cons_succ, Act.put, List.setIfInBounds_toArray, List.set_cons_zero, List.set_cons_succ]
    refine wpAnyH_take (i := 4) (v := Value.bool true) rfl (by kernel_rfl) (by kernel_rfl) (by kernel_rfl) (fun _ _ _ h => h) (Or.inl ⟨by rfl, fun w _ => by go_simp⟩) (by assumption) ?_
    simp only [List.getElem_toArray, List.getElem_cons_zero, List.getElem_cons_succ, Act.put, List.setIfInBounds_toArray, List.set_cons_zero, List.set_cons_succ]
    refine wpAnyH_take (i := 5) rfl (by kernel_rfl) (by kernel_rfl) (by kernel_rfl) (fun _ _ _ h => h) (yieldsIf_load_mid (by rfl) _ _ rfl _ _ rfl (cs8 D) _ (fun _ h => h) hu37 rfl hiD) (by assumption) ?_
    simp only [List.getElem_toArray, List.getElem_cons_zero, List.getElem_cons_succ, Act.put, List.setIfInBounds_toArray, List.set_cons_zero, List.set_cons_succ]
    refine wpAnyH_take (i := 6) (v := .slice A4 (n + n') c4) rfl (by kernel_rfl) (by kernel_rfl) (by kernel_rfl) (fun _ _ _ h => h) (Or.inl ⟨by rfl, fun w _ => by go_simp⟩) (by assumption) ?_
    simp only [List.getElem_toArray, List.getElem_cons_zero, List.getElem_cons_succ, Act.put, List.setIfInBounds_toArray, List.set_cons_zero, List.set_cons_succ]
    refine wpAnyH_take (i := 7) (v := .slice A n c) rfl (by kernel_rfl) (by kernel_rfl) (by kernel_rfl) (fun _ _ _ h => h) (Or.inl ⟨by rfl, fun w _ => by go_simp⟩) (by assumption) ?_
    simp only [List.getElem_toArray, List.getElem_cons_zero, List.getElem_cons_succ, Act.put, List.setIfInBounds_toArray, List.set_cons_zero, List.set_cons_succ]
    refine wpAnyH_take (i := 8) (v := .int .i64 (n : Int)) rfl (by kernel_rfl) (by kernel_rfl) (by kernel_rfl) (fun _ _ _ h => h) (Or.inl ⟨by rfl, fun w _ => by go_simp⟩) (by assumption) ?_
    simp only [List.getElem_toArray, List.getElem_cons_zero, List.getElem_cons_succ, Act.put, List.setIfInBounds_toArray, List.set_cons_zero, List.set_cons_succ]
    refine wpAnyH_take (i := 9) (v := .slice A5 n c5) rfl (by kernel_rfl) (by kernel_rfl) (by kernel_rfl) (fun _ _ _ h => h) (Or.inl ⟨by rfl, fun w _ => by go_simp⟩) (by assumption) ?_
    simp only [List.getElem_toArray, List.getElem_cons_zero, List.getElem_cons_succ, Act.put, List.setIfInBounds_toArray, List.set_cons_zero, List.set_cons_succ]
    refine wpAnyH_ready (rs := [10]) (by kernel_rfl) (by simp) ?_
    refine AllReadyH.cons rfl (fun K hKK => ?_) AllReadyH.nil
    go_simp
    refine (Sum_any w8.heap.size A5 n c5 l _ (hr8.more (Nat.le_trans (Nat.le_of_eq (by simp)) hb8.size)) (Nat.le_refl _) ((hK.keep hb08 (Nat.le_refl _)).more hb08.size) (by omega)).mono ?_
    unfold Sum32
    rw [← HD.out]
    rintro e' w9 ⟨rfl, hb9⟩
    have hb09 := hb08.trans (hb9.mono hb08.size)
    have k69 := k68.keep hb9 k68.lt
    refine hKK.out _ _ k69.range (fun hS10 => ?_)
    clear hKK
    refine wpAnyH_take (i := 11) (v := Value.bool true) rfl (by kernel_rfl) (by kernel_rfl) (by kernel_rfl) (fun _ _ _ h => h) (Or.inl ⟨by rfl, fun w _ => by go_simp⟩) (by assumption) ?_
    simp only [List.getElem_toArray, List.getElem_cons_zero, List.getElem_cons_succ, Act.put, List.setIfInBounds_toArray, List.set_cons_zero, List.set_cons_succ]
    refine wpAnyH_take (i := 12) (v := Value.bool true) rfl (by kernel_rfl) (by kernel_rfl) (by kernel_rfl) (fun _ _ _ h => h) (Or.inl ⟨by rfl, fun w _ => by go_simp⟩) (by assumption) ?_
    simp only [List.getElem_toArray, List.getElem_cons_zero, List.getElem_cons_succ, Act.put, List.setIfInBounds_toArray, List.set_cons_zero, List.set_cons_succ]
    refine wpAnyH_take (i := 13) (v := Value.bool true) rfl (by kernel_rfl) (by kernel_rfl) (by kernel_rfl) (fun _ _ _ h => h) (Or.inl ⟨by rfl, fun w _ => by go_simp⟩) (by assumption) ?_
    simp only [List.getElem_toArray, List.getElem_cons_zero, List.getElem_cons_succ, Act.put, List.setIfInBounds_toArray, List.set_cons_zero, List.set_cons_succ]
    refine wpAnyH_ready (rs := [14]) (by kernel_rfl) (by simp) ?_
    refine AllReadyH.cons rfl (fun K hKK => ?_) AllReadyH.nil
    go_simp
    refine (known_any w.heap.size _ hb09.size (hK.keep hb09 (Nat.le_refl _))).mono ?_
    rintro e' w10 ⟨rfl, hb10⟩
    have hb010 := hb09.trans (hb10.mono hb09.size)
    refine hKK.out _ _ (k69.keep hb10 k69.lt).range (fun hS14 => ?_)
    clear hKK
    refine wpAnyH_take (i := 15) (v := Value.bool true) rfl (by kernel_rfl) (by kernel_rfl) (by kernel_rfl) (fun _ _ _ h => h) (Or.inl ⟨by rfl, fun w _ => by go_simp⟩) (by assumption) ?_
    simp only [List.getElem_toArray, List.getElem_cons_zero, List.getElem_cons_succ, Act.put, List.setIfInBounds_toArray, List.set_cons_zero, List.set_cons_succ]
    refine wpAnyH_take (i := 16) (v := Value.bool true) rfl (by kernel_rfl) (by kernel_rfl) (by kernel_rfl) (fun _ _ _ h => h) (Or.inl ⟨by rfl, fun w _ => by go_simp⟩) (by assumption) ?_
    simp only [List.getElem_toArray, List.getElem_cons_zero, List.getElem_cons_succ, Act.put, List.setIfInBounds_toArray, List.set_cons_zero, List.set_cons_succ]
    refine wpAnyH_done (by kernel_rfl) ?_ _
    go_wp2
    go_ret
    exact ⟨rfl, hb010⟩
end Go.Proofs.YtfbboiagfjkgcaaDoor
