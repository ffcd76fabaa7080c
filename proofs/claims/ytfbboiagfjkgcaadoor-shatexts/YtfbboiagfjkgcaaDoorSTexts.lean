/-
  The statement ShaTexts: each call returns true and changes nothing that was there.
-/
import Derived.Test.YtfbboiagfjkgcaaDoorSKnown
import Derived.Deep.RegionHeld3
namespace Go.Proofs.YtfbboiagfjkgcaaDoor
open Go.RowKit
set_option maxHeartbeats 1600000

theorem Blk.range {w : World} {g : Nat} {t : TypeId} {cs : List Value} (h : Blk w g t cs) : w.rangeAt g 0 cs := fun j v hv => by rw [Nat.zero_add]; exact h.cell hv
theorem undig_dig (x : Nat) (h : x < 16) : undig (dig x) = x := by
  exact match x, h with
  | 0, _ => rfl | 1, _ => rfl | 2, _ => rfl | 3, _ => rfl | 4, _ => rfl | 5, _ => rfl | 6, _ => rfl | 7, _ => rfl
  | 8, _ => rfl | 9, _ => rfl | 10, _ => rfl | 11, _ => rfl | 12, _ => rfl | 13, _ => rfl | 14, _ => rfl | 15, _ => rfl
  | n + 16, h => absurd h (by omega)
theorem hex_at : ∀ (d : List UInt8) (p : Nat) (hp : p < d.length), chr (hexL d) (2 * p) = dig (d[p].toNat / 16) ∧ chr (hexL d) (2 * p + 1) = dig (d[p].toNat % 16)
  | [], p, hp => by simp at hp
  | c :: r, 0, _ => ⟨rfl, rfl⟩
  | c :: r, p + 1, hp => by
    have h := hex_at r p (by simpa using hp)
    have e : hexL (c :: r) = dig (c.toNat / 16) :: dig (c.toNat % 16) :: hexL r := rfl
    rw [e]
    exact h
theorem undig_hex (d : List UInt8) (k : Nat) (hk : k < 2 * d.length) : undig (chr (hexL d) k) < 16 := by
  have h := hex_at d (k / 2) (by omega)
  have h2 := (d[k / 2]'(by omega)).toNat_lt
  rcases Nat.mod_two_eq_zero_or_one k with h0 | h0
  · rw [show k = 2 * (k / 2) by omega, h.1, undig_dig _ (by omega)]; omega
  · rw [show k = 2 * (k / 2) + 1 by omega, h.2, undig_dig _ (by omega)]; omega
theorem unhB_hex (d : List UInt8) (hd : d.length = 32) : unhB (hexL d) = true :=
  unhB_ok _ (by rw [hexL_len, hd]) (fun k hk => undig_hex d k (by omega))
theorem unM_hex (d : List UInt8) (hd : d.length = 32) : unM (hexL d) = d := by
  unfold unM
  rw [if_pos (unhB_hex d hd)]
  apply List.ext_getElem?
  intro p
  by_cases hp : p < 32
  · rw [unK_at _ _ _ hp, List.getElem?_eq_getElem (by omega)]
    congr 1
    unfold valP
    rw [if_pos (by omega)]
    have h := hex_at d p (by omega)
    have h2 := (d[p]'(by omega)).toNat_lt
    rw [h.1, h.2]
    unfold pairB
    rw [undig_dig _ (by omega), undig_dig _ (by omega)]
    apply UInt8.toNat_inj.1
    rw [byt_toNat]
    omega
  · rw [List.getElem?_eq_none (by rw [unK_len]; omega), List.getElem?_eq_none (by omega)]
theorem unhE_hex (d : List UInt8) (hd : d.length = 32) : unhE (hexL d) = 0 := if_pos (unhB_hex d hd)
theorem texts_walk (d : List UInt8) (s : ByteArray) (w : World) (hd : d.length = 32) (_hs : s.size ≤ maxLen) (hK : KT w.heap.size w) :
    Calls Tryd.prog 6 #[.agg (cs8 d).toArray, .string s] w fun e w' => e = .returned (.bool true) ∧ Below w.heap.size w w' := by
  clear _hs
  obtain ⟨⟨l⟩⟩ := s
  have hsz : (ByteArray.mk l.toArray).size = l.length := rfl
  have hdl : (cs8 d).length = 32 := by rw [cs8_len]; exact hd
  by_cases hbig : 16384 < l.length
  · have hdb : decide ((16384 : Int) < (l.length : Int)) = true := by simp; omega
    go_enter Tryd.func6, Tryd.ntmps6
    go_wp2_with (go_at_call 9; refine (known_any w.heap.size _ (by simp) (hK.keep ((Below.refl w.heap.size w).alloc (Nat.le_refl _) _) (Nat.le_refl _))).mono ?_; rintro e w1 ⟨rfl, hb1⟩)
    go_ret
    exact ⟨rfl, ((Below.refl w.heap.size w).alloc (Nat.le_refl _) _).trans (hb1.mono (by simp))⟩
  · obtain ⟨X, HX⟩ : ∃ X, Hid (X = unM l) := ⟨_, rfl⟩
    have hX32 : X.length = 32 := by rw [HX.out]; exact unM_len l
    have hXl : (cs8 X).length = 32 := by rw [cs8_len]; exact hX32
    obtain ⟨E, HE⟩ : ∃ E, Hid (E = unhE l) := ⟨_, rfl⟩
    go_enter Tryd.func6, Tryd.ntmps6
    go_wp2_with fail
    generalize hw : World.alloc _ _ = w0
    have hb0 : Below w.heap.size w w0 := by rw [← hw]; exact (Below.refl _ w).alloc (Nat.le_refl _) _
    have h2 : Blk w0 w.heap.size 37 (cs8 d) := by rw [← hw]; exact Blk.at _ _ _ rfl
    clear hw
    have hs0 := hb0.size
    have hl2 := h2.lt
    refine (Unhex_any l w0).mono ?_
    unfold UnhPost
    rw [← HX.out, ← HE.out]
    rintro e w1 ⟨rfl, hb1⟩
    have hb01 := hb0.trans (hb1.mono hs0)
    have h21 := h2.keep hb1 hl2
    have hs1 := hb01.size
    clear hb1 hb0 h2 hl2
    have hl21 := h21.lt
    go_wp2_with (refine wpList_storeB rfl 37 (.tmp 5) (.tmp 18) rfl w1.heap.size (cs8 X) rfl rfl 37 (cs8 (List.replicate 32 0)) (Blk.at _ _ _ rfl) 32 size32b hXl rfl (cs8_one _) ?_; rw [World.setRow_alloc_new]; have h53 := Blk.new w1 37 (cs8 X); have hb3 := (Below.refl w1.heap.size w1).alloc (Nat.le_refl _) (.cells (cs8 X).toArray 37 (0, 0)); generalize World.alloc w1 _ = w3 at h53 hb3 ⊢)
    have hb03 := hb01.trans (hb3.mono hs1)
    have h23 := h21.keep hb3 hl21
    have hs3 := hb03.size
    clear hb3 hb01 h21
    have hl53 := h53.lt
    refine (rUnhex_any l w3).mono ?_
    unfold UnhPost
    rw [← HX.out, ← HE.out]
    rintro e w4 ⟨rfl, hb4⟩
    have hb04 := hb03.trans (hb4.mono hs3)
    have h24 := h23.keep hb4 (by omega)
    have h54 := h53.keep hb4 hl53
    have hs4 := hb04.size
    clear hb4 hb03 h23 h53
    have hl54 := h54.lt
    go_wp2_with (first
      | (refine wpList_storeB rfl 37 (.tmp 7) (.tmp 23) rfl w4.heap.size (cs8 X) rfl rfl 37 (cs8 (List.replicate 32 0)) (Blk.at _ _ _ rfl) 32 size32b hXl rfl (cs8_one _) ?_; rw [World.setRow_alloc_new]; have h75 := Blk.new w4 37 (cs8 X); have hb5 := (Below.refl w4.heap.size w4).alloc (Nat.le_refl _) (.cells (cs8 X).toArray 37 (0, 0)); generalize World.alloc w4 _ = w5 at h75 hb5 ⊢)
      | (refine wpList_loadB rfl 37 (.tmp 2) rfl _ rfl 37 (cs8 d) (h24.keep hb5 (by omega)) 32 5 Tryd.underlying37 size32b hdl ?_))
    have hb05 := hb04.trans (hb5.mono hs4)
    have h25 := h24.keep hb5 (by omega)
    have h55 := h54.keep hb5 hl54
    have hs5 := hb05.size
    clear hb5 hb04 h24 h54
    have hl75 := h75.lt
    refine (Hex_any d w5 hd).mono ?_
    rintro e w6 ⟨rfl, hb6⟩
    have hb06 := hb05.trans (hb6.mono hs5)
    have h26 := h25.keep hb6 (by omega)
    have h56 := h55.keep hb6 (by omega)
    have h76 := h75.keep hb6 hl75
    have hs6 := hb06.size
    clear hb6 hb05 h25 h55 h75
    have hl76 := h76.lt
    go_wp2_with fail
    refine (Unhex_any (hexL d) w6).mono ?_
    unfold UnhPost
    rw [unM_hex d hd, unhE_hex d hd]
    rintro e w7 ⟨rfl, hb7⟩
    have hb07 := hb06.trans (hb7.mono hs6)
    have h27 := h26.keep hb7 (by omega)
    have h57 := h56.keep hb7 (by omega)
    have h77 := h76.keep hb7 hl76
    have hs7 := hb07.size
    clear hb7 hb06 h26 h56 h76
    have hl77 := h77.lt
    go_wp2_with (refine wpList_storeB rfl 37 (.tmp 9) (.tmp 29) rfl w7.heap.size (cs8 d) rfl rfl 37 (cs8 (List.replicate 32 0)) (Blk.at _ _ _ rfl) 32 size32b hdl rfl (cs8_one _) ?_; rw [World.setRow_alloc_new]; have h98 := Blk.new w7 37 (cs8 d); have hb8 := (Below.refl w7.heap.size w7).alloc (Nat.le_refl _) (.cells (cs8 d).toArray 37 (0, 0)); generalize World.alloc w7 _ = w8 at h98 hb8 ⊢)
    have hb08 := hb07.trans (hb8.mono hs7)
    have h28 := h27.keep hb8 (by omega)
    have h58 := h57.keep hb8 (by omega)
    have h78 := h77.keep hb8 hl77
    have hs8 := hb08.size
    have hl98 := h98.lt
    clear hb8 hb07 h27 h57 h77
    have hu37 := Tryd.underlying37
    have hid : (Tryd.prog.info? 37).map (·.size) = some (cs8 d).length := by rw [hdl]; exact size32b
    have hiX : (Tryd.prog.info? 37).map (·.size) = some (cs8 X).length := by rw [hXl]; exact size32b
    have hq := eq32b X hX32
    have hq2 := eq32b d hd
    have l2 := hide h28.lt
    have l5 := hide h58.lt
    have l7 := hide h78.lt
    have l9 := hide h98.lt
    have H8 := hide hs8
    clear hs8 hl98 hs7 hl77 hs6 hl76 hs5 hl75 hs4 hl54 hs3 hl53 hs1 hl21 hs0 hsz hbig
    go_wp2_with fail
    refine wp_region_held_drew (S := (fun w' => w'.rangeAt w.heap.size 0 (cs8 d) ∧ w'.rangeAt w1.heap.size 0 (cs8 X) ∧ w'.rangeAt w4.heap.size 0 (cs8 X) ∧ w'.rangeAt w7.heap.size 0 (cs8 d))) (by kernel_rfl) ⟨h28.drew.range, h58.drew.range, h78.drew.range, h98.drew.range⟩ (fun hS0 => ?_)
    refine wpAnyH_take (i := 0) rfl (by kernel_rfl) (by kernel_rfl) (by kernel_rfl) (fun _ _ _ h => h) (yieldsIf_load_mid (by rfl) _ _ rfl _ _ rfl (cs8 d) _ (fun _ h => h.1) hu37 rfl hid) (by assumption) ?_
    simp only [List.getElem_toArray, List.getElem_cons_zero, Act.put, List.setIfInBounds_toArray, List.set_cons_zero, List.set_cons_succ]
    refine wpAnyH_take (i := 2) rfl (by kernel_rfl) (by kernel_rfl) (by kernel_rfl) (fun _ _ _ h => h) (yieldsIf_load_mid (by rfl) _ _ rfl _ _ rfl (cs8 d) _ (fun _ h => h.1) hu37 rfl hid) (by assumption) ?_
    simp only [List.getElem_toArray, List.getElem_cons_zero, List.getElem_cons_succ, Act.put, List.setIfInBounds_toArray, List.set_cons_zero, List.set_cons_succ]
    refine wpAnyH_ready (rs := [1]) (by kernel_rfl) (by simp) ?_
    refine AllReadyH.cons rfl (fun K hKK => ?_) AllReadyH.nil
    go_simp
    refine (Hex_any d _ hd).mono ?_
    rintro e' w9 ⟨rfl, hb9⟩
    have hb09 := hb08.drew.trans (hb9.mono H8.out)
    have k2 := h28.drew.keep hb9 l2.out
    have k5 := h58.drew.keep hb9 l5.out
    have k7 := h78.drew.keep hb9 l7.out
    have k9 := h98.drew.keep hb9 l9.out
    refine hKK.out _ _ ⟨k2.range, k5.range, k7.range, k9.range⟩ (fun hS1 => ?_)
    clear hKK
    refine wpAnyH_ready (rs := [3]) (by kernel_rfl) (by simp) ?_
    refine AllReadyH.cons rfl (fun K hKK => ?_) AllReadyH.nil
    go_simp
    refine (rHex_any d _ hd).mono ?_
    rintro e' w10 ⟨rfl, hb10⟩
    have hb010 := hb09.trans (hb10.mono hb09.size)
    have m2 := k2.keep hb10 k2.lt
    have m5 := k5.keep hb10 k5.lt
    have m7 := k7.keep hb10 k7.lt
    have m9 := k9.keep hb10 k9.lt
    refine hKK.out _ _ ⟨m2.range, m5.range, m7.range, m9.range⟩ (fun hS3 => ?_)
    clear hKK
    refine wpAnyH_take (i := 4) (v := Value.bool true) rfl (by kernel_rfl) (by kernel_rfl) (by kernel_rfl) (fun _ _ _ h => h) (Or.inl ⟨by rfl, fun w _ => by go_simp⟩) (by assumption) ?_
    simp only [List.getElem_toArray, List.getElem_cons_zero, List.getElem_cons_succ, Act.put, List.setIfInBounds_toArray, List.set_cons_zero, List.set_cons_succ]
    refine wpAnyH_take (i := 5) (v := Value.bool true) rfl (by kernel_rfl) (by kernel_rfl) (by kernel_rfl) (fun _ _ _ h => h) (Or.inl ⟨by rfl, fun w _ => by go_simp⟩) (by assumption) ?_
    simp only [List.getElem_toArray, List.getElem_cons_zero, List.getElem_cons_succ, Act.put, List.setIfInBounds_toArray, List.set_cons_zero, List.set_cons_succ]
    refine wpAnyH_take (i := 6) rfl (by kernel_rfl) (by kernel_rfl) (by kernel_rfl) (fun _ _ _ h => h) (yieldsIf_load_mid (by rfl) _ _ rfl _ _ rfl (cs8 X) _ (fun _ h => h.2.1) hu37 rfl hiX) (by assumption) ?_
    simp only [List.getElem_toArray, List.getElem_cons_zero, List.getElem_cons_succ, Act.put, List.setIfInBounds_toArray, List.set_cons_zero, List.set_cons_succ]
    refine wpAnyH_take (i := 7) rfl (by kernel_rfl) (by kernel_rfl) (by kernel_rfl) (fun _ _ _ h => h) (yieldsIf_load_mid (by rfl) _ _ rfl _ _ rfl (cs8 X) _ (fun _ h => h.2.2.1) hu37 rfl hiX) (by assumption) ?_
    simp only [List.getElem_toArray, List.getElem_cons_zero, List.getElem_cons_succ, Act.put, List.setIfInBounds_toArray, List.set_cons_zero, List.set_cons_succ]
    refine wpAnyH_take (i := 8) (v := Value.bool true) rfl (by kernel_rfl) (by kernel_rfl) (by kernel_rfl) (fun _ _ _ h => h) (Or.inl ⟨by rfl, fun w _ => by go_simp⟩) (by assumption) ?_
    simp only [List.getElem_toArray, List.getElem_cons_zero, List.getElem_cons_succ, Act.put, List.setIfInBounds_toArray, List.set_cons_zero, List.set_cons_succ]
    refine wpAnyH_take (i := 9) (v := Value.bool true) rfl (by kernel_rfl) (by kernel_rfl) (by kernel_rfl) (fun _ _ _ h => h) (Or.inl ⟨by rfl, fun w _ => by go_simp⟩) (by assumption) ?_
    simp only [List.getElem_toArray, List.getElem_cons_zero, List.getElem_cons_succ, Act.put, List.setIfInBounds_toArray, List.set_cons_zero, List.set_cons_succ]
    refine wpAnyH_take (i := 10) (v := Value.bool true) rfl (by kernel_rfl) (by kernel_rfl) (by kernel_rfl) (fun _ _ _ h => h) (Or.inl ⟨by rfl, fun w _ => by go_simp⟩) (by assumption) ?_
    simp only [List.getElem_toArray, List.getElem_cons_zero, List.getElem_cons_succ, Act.put, List.setIfInBounds_toArray, List.set_cons_zero, List.set_cons_succ]
    refine wpAnyH_take (i := 11) (v := .int .i64 E) rfl (by kernel_rfl) (by kernel_rfl) (by kernel_rfl) (fun _ _ _ h => h) (Or.inl ⟨by rfl, fun w _ => by go_simp⟩) (by assumption) ?_
    simp only [List.getElem_toArray, List.getElem_cons_zero, List.getElem_cons_succ, Act.put, List.setIfInBounds_toArray, List.set_cons_zero, List.set_cons_succ]
    refine wpAnyH_take (i := 12) (v := .int .i64 E) rfl (by kernel_rfl) (by kernel_rfl) (by kernel_rfl) (fun _ _ _ h => h) (Or.inl ⟨by rfl, fun w _ => by go_simp⟩) (by assumption) ?_
    simp only [List.getElem_toArray, List.getElem_cons_zero, List.getElem_cons_succ, Act.put, List.setIfInBounds_toArray, List.set_cons_zero, List.set_cons_succ]
    refine wpAnyH_take (i := 13) (v := Value.bool true) rfl (by kernel_rfl) (by kernel_rfl) (by kernel_rfl) (fun _ _ _ h => h) (Or.inl ⟨by rfl, fun w _ => by go_simp⟩) (by assumption) ?_
    simp only [List.getElem_toArray, List.getElem_cons_zero, List.getElem_cons_succ, Act.put, List.setIfInBounds_toArray, List.set_cons_zero, List.set_cons_succ]
    refine wpAnyH_take (i := 14) (v := Value.bool true) rfl (by kernel_rfl) (by kernel_rfl) (by kernel_rfl) (fun _ _ _ h => h) (Or.inl ⟨by rfl, fun w _ => by go_simp⟩) (by assumption) ?_
    simp only [List.getElem_toArray, List.getElem_cons_zero, List.getElem_cons_succ, Act.put, List.setIfInBounds_toArray, List.set_cons_zero, List.set_cons_succ]
    refine wpAnyH_take (i := 15) (v := Value.bool true) rfl (by kernel_rfl) (by kernel_rfl) (by kernel_rfl) (fun _ _ _ h => h) (Or.inl ⟨by rfl, fun w _ => by go_simp⟩) (by assumption) ?_
    simp only [List.getElem_toArray, List.getElem_cons_zero, List.getElem_cons_succ, Act.put, List.setIfInBounds_toArray, List.set_cons_zero, List.set_cons_succ]
    refine wpAnyH_take (i := 16) rfl (by kernel_rfl) (by kernel_rfl) (by kernel_rfl) (fun _ _ _ h => h) (yieldsIf_load_mid (by rfl) _ _ rfl _ _ rfl (cs8 d) _ (fun _ h => h.2.2.2) hu37 rfl hid) (by assumption) ?_
    simp only [List.getElem_toArray, List.getElem_cons_zero, List.getElem_cons_succ, Act.put, List.setIfInBounds_toArray, List.set_cons_zero, List.set_cons_succ]
    refine wpAnyH_take (i := 17) rfl (by kernel_rfl) (by kernel_rfl) (by kernel_rfl) (fun _ _ _ h => h) (yieldsIf_load_mid (by rfl) _ _ rfl _ _ rfl (cs8 d) _ (fun _ h => h.1) hu37 rfl hid) (by assumption) ?_
    simp only [List.getElem_toArray, List.getElem_cons_zero, List.getElem_cons_succ, Act.put, List.setIfInBounds_toArray, List.set_cons_zero, List.set_cons_succ]
    refine wpAnyH_take (i := 18) (v := Value.bool true) rfl (by kernel_rfl) (by kernel_rfl) (by kernel_rfl) (fun _ _ _ h => h) (Or.inl ⟨by rfl, fun w _ => by go_simp⟩) (by assumption) ?_
    simp only [List.getElem_toArray, List.getElem_cons_zero, List.getElem_cons_succ, Act.put, List.setIfInBounds_toArray, List.set_cons_zero, List.set_cons_succ]
    refine wpAnyH_take (i := 19) (v := Value.bool true) rfl (by kernel_rfl) (by kernel_rfl) (by kernel_rfl) (fun _ _ _ h => h) (Or.inl ⟨by rfl, fun w _ => by go_simp⟩) (by assumption) ?_
    simp only [List.getElem_toArray, List.getElem_cons_zero, List.getElem_cons_succ, Act.put, List.setIfInBounds_toArray, List.set_cons_zero, List.set_cons_succ]
    refine wpAnyH_take (i := 20) (v := Value.bool true) rfl (by kernel_rfl) (by kernel_rfl) (by kernel_rfl) (fun _ _ _ h => h) (Or.inl ⟨by rfl, fun w _ => by go_simp⟩) (by assumption) ?_
    simp only [List.getElem_toArray, List.getElem_cons_zero, List.getElem_cons_succ, Act.put, List.setIfInBounds_toArray, List.set_cons_zero, List.set_cons_succ]
    refine wpAnyH_take (i := 21) (v := .int .i64 0) rfl (by kernel_rfl) (by kernel_rfl) (by kernel_rfl) (fun _ _ _ h => h) (Or.inl ⟨by rfl, fun w _ => by go_simp⟩) (by assumption) ?_
    simp only [List.getElem_toArray, List.getElem_cons_zero, List.getElem_cons_succ, Act.put, List.setIfInBounds_toArray, List.set_cons_zero, List.set_cons_succ]
    refine wpAnyH_take (i := 22) (v := Value.bool true) rfl (by kernel_rfl) (by kernel_rfl) (by kernel_rfl) (fun _ _ _ h => h) (Or.inl ⟨by rfl, fun w _ => by go_simp⟩) (by assumption) ?_
    simp only [List.getElem_toArray, List.getElem_cons_zero, List.getElem_cons_succ, Act.put, List.setIfInBounds_toArray, List.set_cons_zero, List.set_cons_succ]
    refine wpAnyH_take (i := 23) (v := Value.bool true) rfl (by kernel_rfl) (by kernel_rfl) (by kernel_rfl) (fun _ _ _ h => h) (Or.inl ⟨by rfl, fun w _ => by go_simp⟩) (by assumption) ?_
    simp only [List.getElem_toArray, List.getElem_cons_zero, List.getElem_cons_succ, Act.put, List.setIfInBounds_toArray, List.set_cons_zero, List.set_cons_succ]
    refine wpAnyH_take (i := 24) (v := Value.bool true) rfl (by kernel_rfl) (by kernel_rfl) (by kernel_rfl) (fun _ _ _ h => h) (Or.inl ⟨by rfl, fun w _ => by go_simp⟩) (by assumption) ?_
    simp only [List.getElem_toArray, List.getElem_cons_zero, List.getElem_cons_succ, Act.put, List.setIfInBounds_toArray, List.set_cons_zero, List.set_cons_succ]
    refine wpAnyH_ready (rs := [25]) (by kernel_rfl) (by simp) ?_
    refine AllReadyH.cons rfl (fun K hKK => ?_) AllReadyH.nil
    go_simp
    refine (known_any w.heap.size _ hb010.size (hK.keep hb010 (Nat.le_refl _))).mono ?_
    rintro e' w11 ⟨rfl, hb11⟩
    have hb011 := hb010.trans (hb11.mono hb010.size)
    refine hKK.out _ _ ⟨(m2.keep hb11 m2.lt).range, (m5.keep hb11 m5.lt).range, (m7.keep hb11 m7.lt).range, (m9.keep hb11 m9.lt).range⟩ (fun hS25 => ?_)
    clear hKK
    refine wpAnyH_take (i := 26) (v := Value.bool true) rfl (by kernel_rfl) (by kernel_rfl) (by kernel_rfl) (fun _ _ _ h => h) (Or.inl ⟨by rfl, fun w _ => by go_simp⟩) (by assumption) ?_
    simp only [List.getElem_toArray, List.getElem_cons_zero, List.getElem_cons_succ, Act.put, List.setIfInBounds_toArray, List.set_cons_zero, List.set_cons_succ]
    refine wpAnyH_take (i := 27) (v := Value.bool true) rfl (by kernel_rfl) (by kernel_rfl) (by kernel_rfl) (fun _ _ _ h => h) (Or.inl ⟨by rfl, fun w _ => by go_simp⟩) (by assumption) ?_
    simp only [List.getElem_toArray, List.getElem_cons_zero, List.getElem_cons_succ, Act.put, List.setIfInBounds_toArray, List.set_cons_zero, List.set_cons_succ]
    refine wpAnyH_done (by kernel_rfl) ?_ _
    go_wp2
    go_ret
    exact ⟨rfl, hb011⟩
end Go.Proofs.YtfbboiagfjkgcaaDoor
