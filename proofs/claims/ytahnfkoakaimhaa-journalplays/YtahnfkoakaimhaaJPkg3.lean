/-
  Contracts of package journal: valid.
-/
import Derived.Test.YtahnfkoakaimhaaJPkg2
namespace Go.Proofs.Ytahnfkoakaimhaa
open Go.RowKit
set_option maxHeartbeats 2000000

theorem valid_no {l : List UInt32} (h : ¬ goodW l) : validW l = none := if_neg h
theorem valid_yes {l : List UInt32} (h : goodW l) : validW l = some (numW l, (l.drop 2).take (lenW l)) := if_pos h
theorem bel_drewN {B : Nat} {w w1 : World} (h : Below B w w1) (k : Nat) : Below B w (w1.drewN k) := ⟨h.os, h.tape, h.output, h.size, h.block⟩
theorem bel_drew {B : Nat} {w w1 : World} (h : Below B w w1) : Below B w w1.drew := ⟨h.os, h.tape, h.output, h.size, h.block⟩
/-- What valid answers: nothing, or a piece of the words. -/
def Valid (w : World) (B : Nat) (l : List UInt32) (e : Ending) (w' : World) : Prop :=
  Below w.heap.size w w' ∧ ((validW l = none ∧ e = .returned (.tuple #[.slice none 0 0, .int .u32 0])) ∨
    ∃ N r A' k c', validW l = some (N, r) ∧ e = .returned (.tuple #[.slice A' k c', .int .u32 (N : Int)]) ∧ Row w B A' k c' (cs32 r))
theorem valid_any (B : Nat) (A : Option Addr) (n c : Nat) (l : List UInt32) (w : World) (hr : Row w B A n c (cs32 l)) (hB : B ≤ w.heap.size) (hn : n ≤ 256) :
    Calls Try.prog 47 #[.slice A n c] w (Valid w B l) := by
  have hln := hr.len
  rw [cs32_len] at hln
  by_cases h2 : n < 2
  · have d1 : decide ((n : Int) < 2) = true := by simp; omega
    have HV := hide (valid_no (l := l) (fun h => by have := h.2.2.2.2.1; omega))
    go_enter Try.func47, Try.ntmps47
    go_wp2
    go_ret2
    exact ⟨Below.refl _ _, .inl ⟨HV.out, rfl⟩⟩
  have d1 : decide ((n : Int) < 2) = false := by simp; omega
  have hl0 : 0 < l.length := by omega
  have hl1 : 1 < l.length := by omega
  obtain ⟨b, o, rfl, hbB, hcells⟩ := hr.cells (by omega)
  have c0 := hcells 0 _ (cs32_at hl0)
  have c1 := hcells 1 _ (cs32_at hl1)
  rw [Nat.add_zero] at c0
  obtain ⟨x, hx⟩ : ∃ x, x = l[0].toNat := ⟨_, rfl⟩
  obtain ⟨y, hy⟩ : ∃ y, y = l[1].toNat := ⟨_, rfl⟩
  have hX : numW l = x := by rw [hx]; unfold numW; rw [List.getD_eq_getElem?_getD, List.getElem?_eq_getElem hl0]; rfl
  have hY : lenW l = y := by rw [hy]; unfold lenW; rw [List.getD_eq_getElem?_getD, List.getElem?_eq_getElem hl1]; rfl
  have hxl : x < 4294967296 := by rw [hx]; exact l[0].toNat_lt
  have hyl : y < 4294967296 := by rw [hy]; exact l[1].toNat_lt
  rw [← hx] at c0
  rw [← hy] at c1
  clear hx hy
  have hi0 : (0 : Int) < (n : Int) := by omega
  have hi1 : (1 : Int) < (n : Int) := by omega
  have no : ¬ (1 ≤ x ∧ x ≤ 2147483647 ∧ 1 ≤ y ∧ y ≤ 64) → Calls Try.prog 47 #[.slice (some ⟨b, o, none⟩) n c] w (Valid w B l) := by
    intro hno
    have HV := hide (valid_no (l := l) (fun h => hno (by rw [← hX, ← hY]; exact ⟨h.1, h.2.1, h.2.2.1, h.2.2.2.1⟩)))
    have key : (decide ((x : Int) < 1) = true) ∨ (decide ((x : Int) < 1) = false ∧ decide ((2147483647 : Int) < (x : Int)) = true) ∨ (decide ((x : Int) < 1) = false ∧ decide ((2147483647 : Int) < (x : Int)) = false ∧ decide ((y : Int) < 1) = true) ∨ (decide ((x : Int) < 1) = false ∧ decide ((2147483647 : Int) < (x : Int)) = false ∧ decide ((y : Int) < 1) = false ∧ decide ((64 : Int) < (y : Int)) = true) := by
      simp only [decide_eq_true_eq, decide_eq_false_iff_not]; omega
    have HL := hide hln
    clear hno hX hY hr hcells hl0 hl1 hln hxl hyl hbB h2 hn
    rcases key with e1 | ⟨e1, e2⟩ | ⟨e1, e2, e3⟩ | ⟨e1, e2, e3, e4⟩
    all_goals
      go_enter Try.func47, Try.ntmps47
      go_wp2
      go_quiet (fail)
      go_wp2
      go_ret2
      exact ⟨bel_drewN (Below.refl _ _) _, .inl ⟨HV.out, rfl⟩⟩
  by_cases hg : 1 ≤ x ∧ x ≤ 2147483647 ∧ 1 ≤ y ∧ y ≤ 64
  case neg => exact no hg
  clear no
  obtain ⟨g1, g2, g3, g4⟩ := hg
  have e1 : decide ((x : Int) < 1) = false := by simp; omega
  have e2 : decide ((2147483647 : Int) < (x : Int)) = false := by simp; omega
  have e3 : decide ((y : Int) < 1) = false := by simp; omega
  have e4 : decide ((64 : Int) < (y : Int)) = false := by simp; omega
  by_cases hf : n < y + 4
  · have HV := hide (valid_no (l := l) (fun h => by have := h.2.2.2.2.1; rw [hY] at this; omega))
    have e5 : decide ((n : Int) < 2 + (y : Int) + 2) = true := by simp; omega
    have HL := hide hln
    clear hX hY hr hcells hl0 hl1 hln hxl g1 g2 h2
    go_enter Try.func47, Try.ntmps47
    go_wp2
    go_quiet (fail)
    go_wp2
    go_ret2
    exact ⟨bel_drewN (Below.refl _ _) _, .inl ⟨HV.out, rfl⟩⟩
  have e5 : decide ((n : Int) < 2 + (y : Int) + 2) = false := by simp; omega
  have hs2 : y + 2 < l.length := by omega
  have hs3 : y + 3 < l.length := by omega
  have c2 := hcells (y + 2) _ (cs32_at hs2)
  have c3 := hcells (y + 3) _ (cs32_at hs3)
  obtain ⟨q, hq, HQ⟩ : ∃ q : Nat, 2 + (y : Int) = (q : Int) ∧ Hid (q = y + 2) := ⟨y + 2, by omega, rfl⟩
  obtain ⟨A2, k2, hsl, hrow2⟩ := hr.headed Try.underlying36 size32 (hi := q) (by have := HQ.out; omega) (q : Int) rfl
  obtain ⟨A3, k3, hsl3, hrow3⟩ := hr.sliced Try.underlying36 size32 (lo := 2) (hi := q) (by have := HQ.out; omega) (by have := HQ.out; omega) 2 (q : Int) (by omega) rfl
  have hbw : b < w.heap.size := by omega
  have hi2 : (q : Int) < (n : Int) := by omega
  obtain ⟨q1, hw1, HQ1⟩ : ∃ q1 : Nat, IntKind.i64.wrap ((q : Int) + 1) = (q1 : Int) ∧ Hid (q1 = q + 1) := ⟨q + 1, by rw [show ((q + 1 : Nat) : Int) = (q : Int) + 1 by omega]; simp only [IntKind.wrap, IntKind.bits, IntKind.signed]; have := HQ.out; simp; omega, rfl⟩
  have hi3 : (q1 : Int) < (n : Int) := by have := HQ1.out; omega
  have hqn : q < n := by have := HQ.out; omega
  have hqn1 : q1 < n := by have := HQ.out; have := HQ1.out; omega
  have e5 : decide ((n : Int) < (q : Int) + 2) = false := by simp; omega
  have GD := hide (show goodW l ↔ (l[y + 2] = sumW (l.take q) ∧ l[y + 3] = 0) by
    have q1 : l.getD (y + 2) 0 = l[y + 2] := by rw [List.getD_eq_getElem?_getD, List.getElem?_eq_getElem hs2]; rfl
    have q2 : l.getD (y + 3) 0 = l[y + 3] := by rw [List.getD_eq_getElem?_getD, List.getElem?_eq_getElem hs3]; rfl
    unfold goodW
    rw [hX, hY, q1, q2, HQ.out]
    exact ⟨fun h => h.2.2.2.2.2, fun h => ⟨g1, g2, g3, g4, by omega, h.1, h.2⟩⟩)
  have HX := hide hX
  have HY := hide hY
  have HT := hide (show (cs32 l).take q = cs32 (l.take q) ∧ ((cs32 l).drop 2).take (q - 2) = cs32 ((l.drop 2).take y) by rw [show q - 2 = y by have := HQ.out; omega]; unfold cs32; simp [List.map_take, List.map_drop])
  rw [HT.out.1] at hrow2
  rw [HT.out.2] at hrow3
  obtain ⟨z, hz⟩ : ∃ z, z = l[y + 2].toNat := ⟨_, rfl⟩
  obtain ⟨v, hv⟩ : ∃ v, v = l[y + 3].toNat := ⟨_, rfl⟩
  obtain ⟨t, ht⟩ : ∃ t, t = crcOn 0 (bytesL (l.take q)) := ⟨_, rfl⟩
  have GD2 := hide (show goodW l ↔ (z = t ∧ v = 0) by
    rw [GD.out, hz, hv, ht, ← UInt32.toNat_inj, ← UInt32.toNat_inj, sumW_toNat]; rfl)
  rw [← hz] at c2
  rw [← hv] at c3
  rw [show o + (y + 2) = o + q by rw [HQ.out]] at c2
  rw [show o + (y + 3) = o + q1 by rw [HQ1.out, HQ.out]] at c3
  have hzl : z < 4294967296 := by rw [hz]; exact l[y + 2].toNat_lt
  have hvl : v < 4294967296 := by rw [hv]; exact l[y + 3].toNat_lt
  have htl : t < 4294967296 := by rw [ht]; have := crcOn_lt 0 (bytesL (l.take q)); omega
  have HTT := hide ht
  have HR2 := hide hrow2
  have HR3 := hide hrow3
  have HN := hide (And.intro hn hqn)
  clear hX hY hr hcells hl0 hl1 hln hxl g1 g2 h2 hz hv ht hrow2 hrow3 hs2 hs3 GD HT hn
  have sum_t : ∀ (w4 : World) (A4 : Option Addr) (n4 c4 : Nat) (base : Nat), w4.ownsRow base 5 1 (.slice A4 n4 c4) n4 (cs8 (bytesL (l.take q))) → Calls Try.prog 52 #[.slice A4 n4 c4] w4 fun e w5 => e = .returned (.int .u32 (t : Int)) ∧ Below w4.heap.size w4 w5 := by
    intro w4 A4 n4 c4 base ho4
    rw [HTT.out]
    exact Sum_any w4.heap.size _ _ _ (bytesL (l.take q)) _ (Row.of_own ho4) (Nat.le_refl _)
  by_cases hsum : z = t
  · have es : ((z : Int) != (t : Int)) = false := by rw [bne_eq_false_iff_eq]; omega
    clear hzl hvl htl
    have HS := hide hsum
    clear hsum
    go_enter Try.func47, Try.ntmps47
    go_wp2
    go_quiet (fail)
    go_wp2
    refine wp_region_held_drew (S := fun W : World => W.cell? ⟨b, o + q, none⟩ = some (.int .u32 (z : Int)) ∧ W.cell? ⟨b, o + q1, none⟩ = some (.int .u32 (v : Int))) (by kernel_rfl) ⟨c2, c3⟩ (fun hS0 => ?_)
    refine wpAnyH_take (i := 0) (v := .slice (some ⟨b, o, none⟩) n c) rfl (by kernel_rfl) (by kernel_rfl) (by kernel_rfl) (fun _ _ _ h => h) (Or.inl ⟨by rfl, fun w _ => by go_simp⟩) (by assumption) ?_
    simp only [List.getElem_toArray, List.getElem_cons_zero, Act.put, List.setIfInBounds_toArray, List.set_cons_zero, List.set_cons_succ]
    refine wpAnyH_take (i := 1) (v := .int .i64 (q : Int)) rfl (by kernel_rfl) (by kernel_rfl) (by kernel_rfl) (fun _ _ _ h => h) (Or.inl ⟨by rfl, fun w _ => by go_simp⟩) (by assumption) ?_
    simp only [List.getElem_toArray, List.getElem_cons_zero, List.getElem_cons_succ, Act.put, List.setIfInBounds_toArray, List.set_cons_zero, List.set_cons_succ]
    refine wpAnyH_take (i := 2) (v := .pointer (some ⟨b, o + q, none⟩)) rfl (by kernel_rfl) (by kernel_rfl) (by kernel_rfl) (fun _ _ _ h => h) (Or.inl ⟨by rfl, fun w _ => by go_simp⟩) (by assumption) ?_
    simp only [List.getElem_toArray, List.getElem_cons_zero, List.getElem_cons_succ, Act.put, List.setIfInBounds_toArray, List.set_cons_zero, List.set_cons_succ]
    refine wpAnyH_take (i := 3) (v := .int .u32 (z : Int)) rfl (by kernel_rfl) (by kernel_rfl) (by kernel_rfl) (fun _ _ _ h => h) (Or.inl ⟨by rfl, fun w h => by have h9 := h.1; go_simp⟩) (by assumption) ?_
    simp only [List.getElem_toArray, List.getElem_cons_zero, List.getElem_cons_succ, Act.put, List.setIfInBounds_toArray, List.set_cons_zero, List.set_cons_succ]
    refine wpAnyH_take (i := 4) (v := .slice (some ⟨b, o, none⟩) n c) rfl (by kernel_rfl) (by kernel_rfl) (by kernel_rfl) (fun _ _ _ h => h) (Or.inl ⟨by rfl, fun w _ => by go_simp⟩) (by assumption) ?_
    simp only [List.getElem_toArray, List.getElem_cons_zero, List.getElem_cons_succ, Act.put, List.setIfInBounds_toArray, List.set_cons_zero, List.set_cons_succ]
    refine wpAnyH_take (i := 5) (v := .int .i64 (q : Int)) rfl (by kernel_rfl) (by kernel_rfl) (by kernel_rfl) (fun _ _ _ h => h) (Or.inl ⟨by rfl, fun w _ => by go_simp⟩) (by assumption) ?_
    simp only [List.getElem_toArray, List.getElem_cons_zero, List.getElem_cons_succ, Act.put, List.setIfInBounds_toArray, List.set_cons_zero, List.set_cons_succ]
    refine wpAnyH_take (i := 6) (v := .slice A2 q k2) rfl (by kernel_rfl) (by kernel_rfl) (by kernel_rfl) (fun _ _ _ h => h) (Or.inl ⟨by rfl, fun w _ => by go_simp⟩) (by assumption) ?_
    simp only [List.getElem_toArray, List.getElem_cons_zero, List.getElem_cons_succ, Act.put, List.setIfInBounds_toArray, List.set_cons_zero, List.set_cons_succ]
    refine wpAnyH_ready (rs := [7]) (by kernel_rfl) (by simp) ?_
    refine AllReadyH.cons rfl (fun K hKK => ?_) AllReadyH.nil
    go_simp
    refine (Bytes_any B _ _ _ (l.take q) _ (HR2.out.of_drewN _) hB (by have := HN.out; omega)).mono ?_
    rintro e w4 ⟨A4, n4, c4, rfl, ho4, hb4⟩
    have c24 : w4.cell? ⟨b, o + q, none⟩ = some (.int .u32 (z : Int)) := (hb4.cell (p := ⟨b, o + q, none⟩) hbw).trans c2
    have c34 : w4.cell? ⟨b, o + q1, none⟩ = some (.int .u32 (v : Int)) := (hb4.cell (p := ⟨b, o + q1, none⟩) hbw).trans c3
    have hbw4 : b < w4.heap.size := Nat.lt_of_lt_of_le hbw hb4.size
    refine hKK.out _ _ (⟨c24, c34⟩) (fun hS7 => ?_)
    clear hKK
    refine wpAnyH_ready (rs := [8]) (by kernel_rfl) (by simp) ?_
    refine AllReadyH.cons rfl (fun K hKK => ?_) AllReadyH.nil
    go_simp
    refine (sum_t _ _ _ _ _ ho4).mono ?_
    rintro e w5 ⟨rfl, hb5⟩
    have c25 : w5.cell? ⟨b, o + q, none⟩ = some (.int .u32 (z : Int)) := (hb5.cell (p := ⟨b, o + q, none⟩) hbw4).trans c24
    have c35 : w5.cell? ⟨b, o + q1, none⟩ = some (.int .u32 (v : Int)) := (hb5.cell (p := ⟨b, o + q1, none⟩) hbw4).trans c34
    refine hKK.out _ _ (⟨c25, c35⟩) (fun hS8 => ?_)
    clear hKK
    refine wpAnyH_take (i := 9) (v := .bool false) rfl (by kernel_rfl) (by kernel_rfl) (by kernel_rfl) (fun _ _ _ h => h) (Or.inl ⟨by rfl, fun w _ => by go_simp⟩) (by assumption) ?_
    simp only [List.getElem_toArray, List.getElem_cons_zero, List.getElem_cons_succ, Act.put, List.setIfInBounds_toArray, List.set_cons_zero, List.set_cons_succ]
    refine wpAnyH_take (i := 10) (v := .bool false) rfl (by kernel_rfl) (by kernel_rfl) (by kernel_rfl) (fun _ _ _ h => h) (Or.inl ⟨by rfl, fun w _ => by go_simp⟩) (by assumption) ?_
    simp only [List.getElem_toArray, List.getElem_cons_zero, List.getElem_cons_succ, Act.put, List.setIfInBounds_toArray, List.set_cons_zero, List.set_cons_succ]
    refine wpAnyH_take (i := 11) (v := .slice (some ⟨b, o, none⟩) n c) rfl (by kernel_rfl) (by kernel_rfl) (by kernel_rfl) (fun _ _ _ h => h) (Or.inl ⟨by rfl, fun w _ => by go_simp⟩) (by assumption) ?_
    simp only [List.getElem_toArray, List.getElem_cons_zero, List.getElem_cons_succ, Act.put, List.setIfInBounds_toArray, List.set_cons_zero, List.set_cons_succ]
    refine wpAnyH_take (i := 12) (v := .int .i64 (q : Int)) rfl (by kernel_rfl) (by kernel_rfl) (by kernel_rfl) (fun _ _ _ h => h) (Or.inl ⟨by rfl, fun w _ => by go_simp⟩) (by assumption) ?_
    simp only [List.getElem_toArray, List.getElem_cons_zero, List.getElem_cons_succ, Act.put, List.setIfInBounds_toArray, List.set_cons_zero, List.set_cons_succ]
    refine wpAnyH_take (i := 13) (v := .int .i64 (q1 : Int)) rfl (by kernel_rfl) (by kernel_rfl) (by kernel_rfl) (fun _ _ _ h => h) (Or.inl ⟨by rfl, fun w _ => by go_simp⟩) (by assumption) ?_
    simp only [List.getElem_toArray, List.getElem_cons_zero, List.getElem_cons_succ, Act.put, List.setIfInBounds_toArray, List.set_cons_zero, List.set_cons_succ]
    refine wpAnyH_take (i := 14) (v := .pointer (some ⟨b, o + q1, none⟩)) rfl (by kernel_rfl) (by kernel_rfl) (by kernel_rfl) (fun _ _ _ h => h) (Or.inl ⟨by rfl, fun w _ => by go_simp⟩) (by assumption) ?_
    simp only [List.getElem_toArray, List.getElem_cons_zero, List.getElem_cons_succ, Act.put, List.setIfInBounds_toArray, List.set_cons_zero, List.set_cons_succ]
    refine wpAnyH_take (i := 15) (v := .int .u32 (v : Int)) rfl (by kernel_rfl) (by kernel_rfl) (by kernel_rfl) (fun _ _ _ h => h) (Or.inl ⟨by rfl, fun w h => by have h9 := h.2; go_simp⟩) (by assumption) ?_
    simp only [List.getElem_toArray, List.getElem_cons_zero, List.getElem_cons_succ, Act.put, List.setIfInBounds_toArray, List.set_cons_zero, List.set_cons_succ]
    refine wpAnyH_take (i := 16) (v := .bool ((v : Int) != 0)) rfl (by kernel_rfl) (by kernel_rfl) (by kernel_rfl) (fun _ _ _ h => h) (Or.inl ⟨by rfl, fun w _ => by go_simp⟩) (by assumption) ?_
    simp only [List.getElem_toArray, List.getElem_cons_zero, List.getElem_cons_succ, Act.put, List.setIfInBounds_toArray, List.set_cons_zero, List.set_cons_succ]
    refine wpAnyH_take (i := 17) (v := .bool ((v : Int) != 0)) rfl (by kernel_rfl) (by kernel_rfl) (by kernel_rfl) (fun _ _ _ h => h) (Or.inl ⟨by rfl, fun w _ => by go_simp⟩) (by assumption) ?_
    simp only [List.getElem_toArray, List.getElem_cons_zero, List.getElem_cons_succ, Act.put, List.setIfInBounds_toArray, List.set_cons_zero, List.set_cons_succ]
    refine wpAnyH_done (by kernel_rfl) ?_ _
    by_cases h0 : v = 0
    · have HV := hide (valid_yes (l := l) (GD2.out.2 ⟨HS.out, h0⟩))
      have e0 : ((v : Int) != 0) = false := by rw [bne_eq_false_iff_eq]; omega
      have HB : Hid (Below w.heap.size w w5) := (bel_drew (bel_drewN (Below.refl _ _) _)).trans (hb4.trans (hb5.mono hb4.size))
      clear h0 hS0
      go_wp2
      go_ret2
      exact ⟨HB.out, .inr ⟨x, (l.drop 2).take y, A3, _, k3, by rw [HV.out, HX.out, HY.out], rfl, HR3.out⟩⟩
    · have HV := hide (valid_no (l := l) (fun h => h0 (GD2.out.1 h).2))
      have e0 : ((v : Int) != 0) = true := by rw [bne_iff_ne]; omega
      have HB : Hid (Below w.heap.size w w5) := (bel_drew (bel_drewN (Below.refl _ _) _)).trans (hb4.trans (hb5.mono hb4.size))
      clear h0
      go_wp2
      go_ret2
      exact ⟨HB.out, .inl ⟨HV.out, rfl⟩⟩
  · have HV := hide (valid_no (l := l) (fun h => hsum (GD2.out.1 h).1))
    have es : ((z : Int) != (t : Int)) = true := by rw [bne_iff_ne]; omega
    clear hsum hzl hvl htl
    go_enter Try.func47, Try.ntmps47
    go_wp2
    go_quiet (fail)
    go_wp2
    refine wp_region_held_drew (S := fun W : World => W.cell? ⟨b, o + q, none⟩ = some (.int .u32 (z : Int)) ∧ W.cell? ⟨b, o + q1, none⟩ = some (.int .u32 (v : Int))) (by kernel_rfl) ⟨c2, c3⟩ (fun hS0 => ?_)
    refine wpAnyH_take (i := 0) (v := .slice (some ⟨b, o, none⟩) n c) rfl (by kernel_rfl) (by kernel_rfl) (by kernel_rfl) (fun _ _ _ h => h) (Or.inl ⟨by rfl, fun w _ => by go_simp⟩) (by assumption) ?_
    simp only [List.getElem_toArray, List.getElem_cons_zero, Act.put, List.setIfInBounds_toArray, List.set_cons_zero, List.set_cons_succ]
    refine wpAnyH_take (i := 1) (v := .int .i64 (q : Int)) rfl (by kernel_rfl) (by kernel_rfl) (by kernel_rfl) (fun _ _ _ h => h) (Or.inl ⟨by rfl, fun w _ => by go_simp⟩) (by assumption) ?_
    simp only [List.getElem_toArray, List.getElem_cons_zero, List.getElem_cons_succ, Act.put, List.setIfInBounds_toArray, List.set_cons_zero, List.set_cons_succ]
    refine wpAnyH_take (i := 2) (v := .pointer (some ⟨b, o + q, none⟩)) rfl (by kernel_rfl) (by kernel_rfl) (by kernel_rfl) (fun _ _ _ h => h) (Or.inl ⟨by rfl, fun w _ => by go_simp⟩) (by assumption) ?_
    simp only [List.getElem_toArray, List.getElem_cons_zero, List.getElem_cons_succ, Act.put, List.setIfInBounds_toArray, List.set_cons_zero, List.set_cons_succ]
    refine wpAnyH_take (i := 3) (v := .int .u32 (z : Int)) rfl (by kernel_rfl) (by kernel_rfl) (by kernel_rfl) (fun _ _ _ h => h) (Or.inl ⟨by rfl, fun w h => by have h9 := h.1; go_simp⟩) (by assumption) ?_
    simp only [List.getElem_toArray, List.getElem_cons_zero, List.getElem_cons_succ, Act.put, List.setIfInBounds_toArray, List.set_cons_zero, List.set_cons_succ]
    refine wpAnyH_take (i := 4) (v := .slice (some ⟨b, o, none⟩) n c) rfl (by kernel_rfl) (by kernel_rfl) (by kernel_rfl) (fun _ _ _ h => h) (Or.inl ⟨by rfl, fun w _ => by go_simp⟩) (by assumption) ?_
    simp only [List.getElem_toArray, List.getElem_cons_zero, List.getElem_cons_succ, Act.put, List.setIfInBounds_toArray, List.set_cons_zero, List.set_cons_succ]
    refine wpAnyH_take (i := 5) (v := .int .i64 (q : Int)) rfl (by kernel_rfl) (by kernel_rfl) (by kernel_rfl) (fun _ _ _ h => h) (Or.inl ⟨by rfl, fun w _ => by go_simp⟩) (by assumption) ?_
    simp only [List.getElem_toArray, List.getElem_cons_zero, List.getElem_cons_succ, Act.put, List.setIfInBounds_toArray, List.set_cons_zero, List.set_cons_succ]
    refine wpAnyH_take (i := 6) (v := .slice A2 q k2) rfl (by kernel_rfl) (by kernel_rfl) (by kernel_rfl) (fun _ _ _ h => h) (Or.inl ⟨by rfl, fun w _ => by go_simp⟩) (by assumption) ?_
    simp only [List.getElem_toArray, List.getElem_cons_zero, List.getElem_cons_succ, Act.put, List.setIfInBounds_toArray, List.set_cons_zero, List.set_cons_succ]
    refine wpAnyH_ready (rs := [7]) (by kernel_rfl) (by simp) ?_
    refine AllReadyH.cons rfl (fun K hKK => ?_) AllReadyH.nil
    go_simp
    refine (Bytes_any B _ _ _ (l.take q) _ (HR2.out.of_drewN _) hB (by have := HN.out; omega)).mono ?_
    rintro e w4 ⟨A4, n4, c4, rfl, ho4, hb4⟩
    have c24 : w4.cell? ⟨b, o + q, none⟩ = some (.int .u32 (z : Int)) := (hb4.cell (p := ⟨b, o + q, none⟩) hbw).trans c2
    have c34 : w4.cell? ⟨b, o + q1, none⟩ = some (.int .u32 (v : Int)) := (hb4.cell (p := ⟨b, o + q1, none⟩) hbw).trans c3
    have hbw4 : b < w4.heap.size := Nat.lt_of_lt_of_le hbw hb4.size
    refine hKK.out _ _ (⟨c24, c34⟩) (fun hS7 => ?_)
    clear hKK
    refine wpAnyH_ready (rs := [8]) (by kernel_rfl) (by simp) ?_
    refine AllReadyH.cons rfl (fun K hKK => ?_) AllReadyH.nil
    go_simp
    refine (sum_t _ _ _ _ _ ho4).mono ?_
    rintro e w5 ⟨rfl, hb5⟩
    have c25 : w5.cell? ⟨b, o + q, none⟩ = some (.int .u32 (z : Int)) := (hb5.cell (p := ⟨b, o + q, none⟩) hbw4).trans c24
    have c35 : w5.cell? ⟨b, o + q1, none⟩ = some (.int .u32 (v : Int)) := (hb5.cell (p := ⟨b, o + q1, none⟩) hbw4).trans c34
    refine hKK.out _ _ (⟨c25, c35⟩) (fun hS8 => ?_)
    clear hKK
    refine wpAnyH_take (i := 9) (v := .bool true) rfl (by kernel_rfl) (by kernel_rfl) (by kernel_rfl) (fun _ _ _ h => h) (Or.inl ⟨by rfl, fun w _ => by go_simp⟩) (by assumption) ?_
    simp only [List.getElem_toArray, List.getElem_cons_zero, List.getElem_cons_succ, Act.put, List.setIfInBounds_toArray, List.set_cons_zero, List.set_cons_succ]
    refine wpAnyH_take (i := 10) (v := .bool true) rfl (by kernel_rfl) (by kernel_rfl) (by kernel_rfl) (fun _ _ _ h => h) (Or.inl ⟨by rfl, fun w _ => by go_simp⟩) (by assumption) ?_
    simp only [List.getElem_toArray, List.getElem_cons_zero, List.getElem_cons_succ, Act.put, List.setIfInBounds_toArray, List.set_cons_zero, List.set_cons_succ]
    refine wpAnyH_take (i := 11) (v := undef) rfl (by kernel_rfl) (by kernel_rfl) (by kernel_rfl) (fun _ _ _ h => h) (Or.inr ⟨by rfl, rfl⟩) (by assumption) ?_
    simp only [List.getElem_toArray, List.getElem_cons_zero, List.getElem_cons_succ, Act.put, List.setIfInBounds_toArray, List.set_cons_zero, List.set_cons_succ]
    refine wpAnyH_take (i := 12) (v := undef) rfl (by kernel_rfl) (by kernel_rfl) (by kernel_rfl) (fun _ _ _ h => h) (Or.inr ⟨by rfl, rfl⟩) (by assumption) ?_
    simp only [List.getElem_toArray, List.getElem_cons_zero, List.getElem_cons_succ, Act.put, List.setIfInBounds_toArray, List.set_cons_zero, List.set_cons_succ]
    refine wpAnyH_take (i := 13) (v := undef) rfl (by kernel_rfl) (by kernel_rfl) (by kernel_rfl) (fun _ _ _ h => h) (Or.inr ⟨by rfl, rfl⟩) (by assumption) ?_
    simp only [List.getElem_toArray, List.getElem_cons_zero, List.getElem_cons_succ, Act.put, List.setIfInBounds_toArray, List.set_cons_zero, List.set_cons_succ]
    refine wpAnyH_take (i := 14) (v := undef) rfl (by kernel_rfl) (by kernel_rfl) (by kernel_rfl) (fun _ _ _ h => h) (Or.inr ⟨by rfl, rfl⟩) (by assumption) ?_
    simp only [List.getElem_toArray, List.getElem_cons_zero, List.getElem_cons_succ, Act.put, List.setIfInBounds_toArray, List.set_cons_zero, List.set_cons_succ]
    refine wpAnyH_take (i := 15) (v := undef) rfl (by kernel_rfl) (by kernel_rfl) (by kernel_rfl) (fun _ _ _ h => h) (Or.inr ⟨by rfl, rfl⟩) (by assumption) ?_
    simp only [List.getElem_toArray, List.getElem_cons_zero, List.getElem_cons_succ, Act.put, List.setIfInBounds_toArray, List.set_cons_zero, List.set_cons_succ]
    refine wpAnyH_take (i := 16) (v := undef) rfl (by kernel_rfl) (by kernel_rfl) (by kernel_rfl) (fun _ _ _ h => h) (Or.inr ⟨by rfl, rfl⟩) (by assumption) ?_
    simp only [List.getElem_toArray, List.getElem_cons_zero, List.getElem_cons_succ, Act.put, List.setIfInBounds_toArray, List.set_cons_zero, List.set_cons_succ]
    refine wpAnyH_take (i := 17) (v := .bool true) rfl (by kernel_rfl) (by kernel_rfl) (by kernel_rfl) (fun _ _ _ h => h) (Or.inl ⟨by rfl, fun w _ => by go_simp⟩) (by assumption) ?_
    simp only [List.getElem_toArray, List.getElem_cons_zero, List.getElem_cons_succ, Act.put, List.setIfInBounds_toArray, List.set_cons_zero, List.set_cons_succ]
    refine wpAnyH_done (by kernel_rfl) ?_ _
    have HB : Hid (Below w.heap.size w w5) := (bel_drew (bel_drewN (Below.refl _ _) _)).trans (hb4.trans (hb5.mono hb4.size))
    go_wp2
    go_ret2
    exact ⟨HB.out, .inl ⟨HV.out, rfl⟩⟩
end Go.Proofs.Ytahnfkoakaimhaa
