/-
  Contracts: isa.Size, isa.Bytes; of the reference Right, Bytes, Size.
-/
import Derived.Test.YtdikiabjkmigdaaGreatDoorIPkg
namespace Go.Proofs.YtdikiabjkmigdaaGreatDoor
set_option maxRecDepth 20000
open Go.RowKit
set_option maxHeartbeats 1000000

theorem boxed {w w2 : World} {o x : Int} {T : TypeId} (h : Below (w.alloc (.cells #[.int .i64 o, .int .i32 x] T)).heap.size (w.alloc (.cells #[.int .i64 o, .int .i32 x] T)) w2) :
    w2.cell? ⟨w.heap.size, 0, none⟩ = some (.int .i64 o) ∧ w2.cell? ⟨w.heap.size, 1, none⟩ = some (.int .i32 x) ∧ Below w.heap.size w w2 ∧ w.heap.size < w2.heap.size := by
  have hs := h.size
  have hlt : w.heap.size < (w.alloc (.cells #[.int .i64 o, .int .i32 x] T)).heap.size := by simp
  refine ⟨(h.cell (p := ⟨w.heap.size, 0, none⟩) hlt).trans (by simp), (h.cell (p := ⟨w.heap.size, 1, none⟩) hlt).trans (by simp), (below_box w _).trans (h.mono (by simp)), by omega⟩
theorem Plain_p (x : Int) (w : World) (p : Nat) (hp : plN x = p) : Calls Tryz.prog 70 #[.int .i32 x] w fun e w' => e = .returned (.int .u32 (p : Int)) ∧ w = w' := by
  refine (Plain_any x w).mono ?_
  rintro e w' ⟨rfl, rfl⟩
  refine ⟨ret_int ?_, rfl⟩
  subst hp; unfold plN; omega
theorem rPlain_p (x : Int) (w : World) (hx : -2147483648 ≤ x ∧ x ≤ 2147483647) (p : Nat) (hp : plN x = p) : Calls Tryz.prog 57 #[.int .i32 x] w fun e w' => e = .returned (.int .u32 (p : Int)) ∧ w = w' := by
  refine (rPlain_any x w hx.1 hx.2).mono ?_
  rintro e w' ⟨rfl, rfl⟩
  refine ⟨ret_int ?_, rfl⟩
  subst hp; unfold plN; omega
theorem Put_ok (B : Nat) (A : Option Addr) (n c : Nat) (l : List UInt8) (k v : Nat) (K : Int) (w : World) (hK : K = k) (hr : Row w B A n c (cs8 l)) (hB : B ≤ w.heap.size) (hl : n ≤ 1099511627776) (hk : 1 ≤ k ∧ k ≤ 8) (hv : v < 256 ^ k) :
    Calls Tryz.prog 37 #[.slice A n c, .int .i64 K, .int .u64 (v : Int)] w (Gives w (l ++ leB k v) 0) := by
  subst hK
  have e0 : putE (k : Int) v = 0 := by rw [putE_nat hk, if_pos hv]
  have := Put_any B A n c l (k : Int) v w hr hB hl
  rwa [e0, putL_ok e0] at this
theorem formatOf_f (o f : Int) (w : World) (h : fmtV o = f) : Calls Tryz.prog 101 #[.int .i64 o] w fun e w' => e = .returned (.int .i64 f) ∧ w = w' := by
  subst h; exact formatOf_any o w
theorem widthOf_q (o f : Int) (q : Nat) (w : World) (h : 1 ≤ o ∧ o ≤ 11) (hf : fmtV o = f) (hq : wid o = q) : Calls Tryz.prog 100 #[.int .i64 f] w fun e w' => e = .returned (.int .i64 (q : Int)) ∧ w = w' := by
  subst hf; subst hq; exact widthOf_any o w h
theorem Bytes_core (k p q : Nat) (f x : Int) (w : World) (H : Hid (rgtE (k : Int) x = 0 ∧ plN x = p ∧ p < 256 ^ q ∧ wid (k : Int) = q ∧ fmtV (k : Int) = f ∧ (1 ≤ (k : Int) ∧ (k : Int) ≤ 11))) (hk : k ≤ 11) (hp : p ≤ 4294967295) (hq : q ≤ 4) (hq1 : 1 ≤ q) :
    Calls Tryz.prog 72 #[.agg #[.int .i64 (k : Int), .int .i32 x]] w (Gives w (leB 1 k ++ leB q p) 0) := by
  go_enter Tryz.func72, Tryz.ntmps72
  go_wp2_with (first
    | (go_at_call 99; refine (iRight_any _ _ _).mono ?_; rintro e w2 ⟨rfl, hb⟩; rw [H.out.1]; obtain ⟨c0, c1, hb2, hs2⟩ := boxed hb; clear hb)
    | (go_at_call 37; refine (Put_ok 0 _ _ _ [] 1 k _ _ rfl Row.none_ (Nat.zero_le _) (by omega) (by omega) (by omega)).mono ?_; rintro e w3 ⟨A3, n3, c3, rfl, ho3, hb3⟩))
  have hb4 : Below w.heap.size w w3 := hb2.trans (hb3.mono (by omega))
  replace c0 := (hb3.cell (p := ⟨w.heap.size, 0, none⟩) hs2).trans c0
  replace c1 := (hb3.cell (p := ⟨w.heap.size, 1, none⟩) hs2).trans c1
  have hn3 : n3 = 1 := by have := own8_len ho3; simpa [leB_len] using this.symm
  subst hn3
  have hR : Row w3 w3.heap.size A3 1 c3 (cs8 (leB 1 k)) := Row.of_own ho3
  have hs3 : w.heap.size < w3.heap.size := by have := hb3.size; omega
  clear hb2 hs2 ho3 hb3
  have d0 : w3.drew.cell? ⟨w.heap.size, 0, none⟩ = some (.int .i64 (k : Int)) := c0
  have d1 : w3.drew.cell? ⟨w.heap.size, 1, none⟩ = some (.int .i32 x) := c1
  have hR4 : Row w3.drew w3.drew.heap.size A3 1 c3 (cs8 (leB 1 k)) := hR.keep (Below.refl _ w3).drew (Nat.le_refl _)
  have HB := hide hb4.drew
  clear hb4 c0 c1 hR
  have hs4 : w.heap.size < w3.drew.heap.size := by have := hs3; exact this
  refine wp_region_held_drew (S := fun w' => w'.cell? ⟨w.heap.size, 0, none⟩ = some (.int .i64 (k : Int)) ∧ w'.cell? ⟨w.heap.size, 1, none⟩ = some (.int .i32 x)) (by kernel_rfl) ⟨d0, d1⟩ (fun hS0 => ?_)
  have hwp : IntKind.u64.wrap (p : Int) = (p : Int) := by simp [IntKind.wrap, IntKind.signed, IntKind.bits]; omega
  generalize w3.drew = w4 at *
  refine wpAnyH_take (i := 0) (v := .slice A3 1 c3) rfl (by kernel_rfl) (by kernel_rfl) (by kernel_rfl) (fun _ _ _ h => h) (Or.inl ⟨by rfl, fun w _ => by go_simp⟩) (by assumption) ?_
  simp only [List.getElem_toArray, List.getElem_cons_zero, Act.put, List.setIfInBounds_toArray, List.set_cons_zero, List.set_cons_succ]
  refine wpAnyH_take (i := 1) (v := .pointer (some ⟨w.heap.size, 0, none⟩)) rfl (by kernel_rfl) (by kernel_rfl) (by kernel_rfl) (fun _ _ _ h => h) (Or.inl ⟨by rfl, fun w _ => by go_simp⟩) (by assumption) ?_
  simp only [List.getElem_toArray, List.getElem_cons_zero, List.getElem_cons_succ, Act.put, List.setIfInBounds_toArray, List.set_cons_zero, List.set_cons_succ]
  refine wpAnyH_take (i := 2) (v := .int .i64 (k : Int)) rfl (by kernel_rfl) (by kernel_rfl) (by kernel_rfl) (fun _ _ _ h => h) (Or.inl ⟨by rfl, fun w h => by have h9 := h.1; go_simp⟩) (by assumption) ?_
  simp only [List.getElem_toArray, List.getElem_cons_zero, List.getElem_cons_succ, Act.put, List.setIfInBounds_toArray, List.set_cons_zero, List.set_cons_succ]
  refine wpAnyH_take (i := 5) (v := .pointer (some ⟨w.heap.size, 1, none⟩)) rfl (by kernel_rfl) (by kernel_rfl) (by kernel_rfl) (fun _ _ _ h => h) (Or.inl ⟨by rfl, fun w _ => by go_simp⟩) (by assumption) ?_
  simp only [List.getElem_toArray, List.getElem_cons_zero, List.getElem_cons_succ, Act.put, List.setIfInBounds_toArray, List.set_cons_zero, List.set_cons_succ]
  refine wpAnyH_take (i := 6) (v := .int .i32 x) rfl (by kernel_rfl) (by kernel_rfl) (by kernel_rfl) (fun _ _ _ h => h) (Or.inl ⟨by rfl, fun w h => by have h9 := h.2; go_simp⟩) (by assumption) ?_
  simp only [List.getElem_toArray, List.getElem_cons_zero, List.getElem_cons_succ, Act.put, List.setIfInBounds_toArray, List.set_cons_zero, List.set_cons_succ]
  refine wpAnyH_ready (rs := [3]) (by kernel_rfl) (by simp) ?_
  refine AllReadyH.cons rfl (fun K hKK => ?_) AllReadyH.nil
  go_simp
  refine (formatOf_f _ f _ H.out.2.2.2.2.1).mono ?_
  rintro e w' ⟨rfl, rfl⟩
  refine hKK.out _ _ (⟨d0, d1⟩) (fun hS3 => ?_)
  clear hKK
  refine wpAnyH_ready (rs := [4]) (by kernel_rfl) (by simp) ?_
  refine AllReadyH.cons rfl (fun K hKK => ?_) AllReadyH.nil
  go_simp
  refine (widthOf_q (k : Int) f q _ H.out.2.2.2.2.2 H.out.2.2.2.2.1 H.out.2.2.2.1).mono ?_
  rintro e w' ⟨rfl, rfl⟩
  refine hKK.out _ _ (⟨d0, d1⟩) (fun hS4 => ?_)
  clear hKK
  refine wpAnyH_ready (rs := [7]) (by kernel_rfl) (by simp) ?_
  refine AllReadyH.cons rfl (fun K hKK => ?_) AllReadyH.nil
  go_simp
  refine (Plain_p _ _ p H.out.2.1).mono ?_
  rintro e w' ⟨rfl, rfl⟩
  refine hKK.out _ _ (⟨d0, d1⟩) (fun hS7 => ?_)
  clear hKK
  refine wpAnyH_take (i := 8) (v := .int .u64 (p : Int)) rfl (by kernel_rfl) (by kernel_rfl) (by kernel_rfl) (fun _ _ _ h => h) (Or.inl ⟨by rfl, fun w _ => by go_simp⟩) (by assumption) ?_
  simp only [List.getElem_toArray, List.getElem_cons_zero, List.getElem_cons_succ, Act.put, List.setIfInBounds_toArray, List.set_cons_zero, List.set_cons_succ]
  refine wpAnyH_ready (rs := [9]) (by kernel_rfl) (by simp) ?_
  refine AllReadyH.cons rfl (fun K hKK => ?_) AllReadyH.nil
  go_simp
  refine (Put_ok _ _ _ _ _ q p _ _ rfl hR4 (Nat.le_refl _) (by omega) (by omega) H.out.2.2.1).mono ?_
  rintro e w5 ⟨A5, n5, c5, rfl, ho5, hb5⟩
  refine hKK.out _ _ (⟨(hb5.cell (p := ⟨w.heap.size, 0, none⟩) hs4).trans d0, (hb5.cell (p := ⟨w.heap.size, 1, none⟩) hs4).trans d1⟩) (fun hS9 => ?_)
  clear hKK
  refine wpAnyH_take (i := 10) (v := .tuple #[.slice A5 n5 c5, .int .i64 0]) rfl (by kernel_rfl) (by kernel_rfl) (by kernel_rfl) (fun _ _ _ h => h) (Or.inl ⟨by rfl, fun w _ => by go_simp⟩) (by assumption) ?_
  simp only [List.getElem_toArray, List.getElem_cons_zero, List.getElem_cons_succ, Act.put, List.setIfInBounds_toArray, List.set_cons_zero, List.set_cons_succ]
  refine wpAnyH_take (i := 12) (v := .int .i64 0) rfl (by kernel_rfl) (by kernel_rfl) (by kernel_rfl) (fun _ _ _ h => h) (Or.inl ⟨by rfl, fun w _ => by go_simp⟩) (by assumption) ?_
  simp only [List.getElem_toArray, List.getElem_cons_zero, List.getElem_cons_succ, Act.put, List.setIfInBounds_toArray, List.set_cons_zero, List.set_cons_succ]
  refine wpAnyH_take (i := 11) (v := .slice A5 n5 c5) rfl (by kernel_rfl) (by kernel_rfl) (by kernel_rfl) (fun _ _ _ h => h) (Or.inl ⟨by rfl, fun w _ => by go_simp⟩) (by assumption) ?_
  simp only [List.getElem_toArray, List.getElem_cons_zero, List.getElem_cons_succ, Act.put, List.setIfInBounds_toArray, List.set_cons_zero, List.set_cons_succ]
  refine wpAnyH_take (i := 13) (v := .slice A5 n5 c5) rfl (by kernel_rfl) (by kernel_rfl) (by kernel_rfl) (fun _ _ _ h => h) (Or.inl ⟨by rfl, fun w _ => by go_simp⟩) (by assumption) ?_
  simp only [List.getElem_toArray, List.getElem_cons_zero, List.getElem_cons_succ, Act.put, List.setIfInBounds_toArray, List.set_cons_zero, List.set_cons_succ]
  refine wpAnyH_done (by kernel_rfl) ?_ _
  go_wp2
  go_ret2
  exact ⟨A5, n5, c5, rfl, own_base HB.out.size ho5, HB.out.trans (hb5.mono HB.out.size)⟩
theorem iBytes_any (o x : Int) (w : World) (hx : -2147483648 ≤ x ∧ x ≤ 2147483647) : Calls Tryz.prog 72 #[.agg #[.int .i64 o, .int .i32 x]] w (Gives w (bytI o x) (rgtE o x)) := by
  by_cases h : rgtE o x = 0
  · have ho := rgt_op h
    obtain ⟨k, rfl⟩ : ∃ k : Nat, o = (k : Int) := ⟨o.toNat, by omega⟩
    have hr := (rgt_range hx h).1
    have hq := wid_le (k : Int)
    have hp := p256_le hq
    rw [bytI_ok h, h, show insB (k : Int) x = leB 1 k ++ leB (wid (k : Int)) (plN x) by unfold insB; rw [Int.toNat_natCast]; simp [leB_cons, leB_zero]]
    exact Bytes_core k (plN x) (wid (k : Int)) (fmtV (k : Int)) x w (hide ⟨h, rfl, hr, rfl, rfl, ho⟩) (by omega) (by omega) hq (wid_pos ho)
  · have H := hide (bytI_bad h)
    have hn : (rgtE o x != 0) = true := by simpa using h
    go_enter Tryz.func72, Tryz.ntmps72
    go_wp2_with (go_at_call 99; refine (iRight_any _ _ _).mono ?_; rintro e w2 ⟨rfl, hb⟩; obtain ⟨c0, c1, hb2, hs2⟩ := boxed hb; clear hb)
    go_ret2
    rw [H.out]
    exact Gives.of rfl (World.ownsRow_nil _ _ _ _) hb2
-- the reference
theorem rWidth_q (o : Int) (q : Nat) (w : World) (h : wid o = q) : Calls Tryz.prog 112 #[.int .i64 o] w fun e w' => e = .returned (.int .i64 (q : Int)) ∧ w = w' := by
  subst h; exact rWidth_any o w
theorem rPut_ok (B : Nat) (A : Option Addr) (n c : Nat) (l : List UInt8) (k v : Nat) (K : Int) (w : World) (hK : K = k) (hr : Row w B A n c (cs8 l)) (hB : B ≤ w.heap.size) (hl : n ≤ 1099511627776) (hk : 1 ≤ k ∧ k ≤ 8) (hv : v < 256 ^ k) (hv2 : v ≤ 4294967295) :
    Calls Tryz.prog 89 #[.slice A n c, .int .i64 K, .int .u64 (v : Int)] w (Gives w (l ++ leB k v) 0) := by
  subst hK
  have e0 : putE (k : Int) v = 0 := by rw [putE_nat hk, if_pos hv]
  have := rPut_any B A n c l (k : Int) v w hr hB hl (by omega)
  rwa [e0, putL_ok e0] at this
theorem row_one (w : World) (k : Nat) (hk : k ≤ 11) : Row (w.alloc (.cells #[.int .u8 (k : Int)] 5)) (w.heap.size + 1) (some ⟨w.heap.size, 0, none⟩) 1 1 (cs8 (leB 1 k)) := by
  have e : cs8 (leB 1 k) = [.int .u8 (k : Int)] := by
    simp [leB_cons, leB_zero, cs8, byt_toNat]; omega
  rw [e]; exact Row.one w _ _
theorem irRight_any (o x : Int) (w : World) : Calls Tryz.prog 84 #[.agg #[.int .i64 o, .int .i32 x]] w (Tells w (rgtE o x)) := by
  have hd0 : decide (x < 0) = true ∨ decide (x < 0) = false := by cases decide (x < 0) <;> simp
  by_cases h : 1 ≤ o ∧ o ≤ 11
  · rcases (show o = 1 ∨ (o = 2 ∨ o = 3 ∨ o = 4 ∨ o = 5 ∨ o = 6 ∨ o = 7) ∨ o = 8 ∨ o = 9 ∨ (o = 10 ∨ o = 11) by omega) with h1 | h1 | h1 | h1 | h1
    · have H := hide (show rgtE o x = 0 by subst h1; rfl)
      have HW := hide (show wid o = 4 by subst h1; decide)
      have e8 : (o == 8) = false := by rw [beq_eq_false_iff_ne]; omega
      have e9 : (o == 9) = false := by rw [beq_eq_false_iff_ne]; omega
      clear h h1 hd0
      go_enter Tryz.func84, Tryz.ntmps84
      go_wp2_with (go_at_call 112; refine (rWidth_q _ 4 _ HW.out).mono ?_; rintro e w' ⟨rfl, rfl⟩)
      go_ret
      exact ⟨ret_int H.out.symm, below_box _ _⟩
    · have H := hide (show rgtE o x = inE x 0 255 10 by unfold rgtE; rw [if_neg (by omega), if_neg (by omega), if_neg (by omega), if_neg (by omega), if_pos (by omega)]; rfl)
      have HW := hide (show wid o = 1 by rcases h1 with rfl | rfl | rfl | rfl | rfl | rfl <;> decide)
      have e8 : (o == 8) = false := by rw [beq_eq_false_iff_ne]; omega
      have e9 : (o == 9) = false := by rw [beq_eq_false_iff_ne]; omega
      clear h h1
      rcases hd0 with d0 | d0
      · replace H := hide (show rgtE o x = 10 by rw [H.out]; exact if_neg (by simp at d0; omega))
        go_enter Tryz.func84, Tryz.ntmps84
        go_wp2_with (go_at_call 112; refine (rWidth_q _ 1 _ HW.out).mono ?_; rintro e w' ⟨rfl, rfl⟩)
        go_ret
        exact ⟨ret_int H.out.symm, below_box _ _⟩
      · rcases (show decide (255 < x) = true ∨ decide (255 < x) = false by cases decide (255 < x) <;> simp) with d1 | d1
        · replace H := hide (show rgtE o x = 10 by rw [H.out]; exact if_neg (by simp at d1; omega))
          go_enter Tryz.func84, Tryz.ntmps84
          go_wp2_with (go_at_call 112; refine (rWidth_q _ 1 _ HW.out).mono ?_; rintro e w' ⟨rfl, rfl⟩)
          go_ret
          exact ⟨ret_int H.out.symm, below_box _ _⟩
        · replace H := hide (show rgtE o x = 0 by rw [H.out]; exact if_pos (by simp at d0 d1; omega))
          go_enter Tryz.func84, Tryz.ntmps84
          go_wp2_with (go_at_call 112; refine (rWidth_q _ 1 _ HW.out).mono ?_; rintro e w' ⟨rfl, rfl⟩)
          go_ret
          exact ⟨ret_int H.out.symm, below_box _ _⟩
    · have HW := hide (show wid o = 1 by subst h1; decide)
      have H := hide (show rgtE o x = inE x 1 2 9 by subst h1; rfl)
      have e8 : (o == 8) = true := by rw [beq_iff_eq]; exact h1
      have e9 : (o == 9) = false := by rw [beq_eq_false_iff_ne]; omega
      clear h h1
      rcases (show decide (x < 1) = true ∨ decide (x < 1) = false by cases decide (x < 1) <;> simp) with d0 | d0
      · replace H := hide (show rgtE o x = 9 by rw [H.out]; exact if_neg (by simp at d0; omega))
        clear hd0
        go_enter Tryz.func84, Tryz.ntmps84
        go_wp2_with (go_at_call 112; refine (rWidth_q _ 1 _ HW.out).mono ?_; rintro e w' ⟨rfl, rfl⟩)
        go_ret
        exact ⟨ret_int H.out.symm, below_box _ _⟩
      · rcases (show decide (2 < x) = true ∨ decide (2 < x) = false by cases decide (2 < x) <;> simp) with d1 | d1
        · replace H := hide (show rgtE o x = 9 by rw [H.out]; exact if_neg (by simp at d1; omega))
          clear hd0
          go_enter Tryz.func84, Tryz.ntmps84
          go_wp2_with (go_at_call 112; refine (rWidth_q _ 1 _ HW.out).mono ?_; rintro e w' ⟨rfl, rfl⟩)
          go_ret
          exact ⟨ret_int H.out.symm, below_box _ _⟩
        · replace H := hide (show rgtE o x = 0 by rw [H.out]; exact if_pos (by simp at d0 d1; omega))
          have d2 : decide (x < 0) = false := by simp at d0 ⊢; omega
          have d3 : decide (255 < x) = false := by simp at d1 ⊢; omega
          clear hd0
          go_enter Tryz.func84, Tryz.ntmps84
          go_wp2_with (go_at_call 112; refine (rWidth_q _ 1 _ HW.out).mono ?_; rintro e w' ⟨rfl, rfl⟩)
          go_ret
          exact ⟨ret_int H.out.symm, below_box _ _⟩
    · have HW := hide (show wid o = 1 by subst h1; decide)
      have H := hide (show rgtE o x = inE x 1 16 9 by subst h1; rfl)
      have e9 : (o == 9) = true := by rw [beq_iff_eq]; exact h1
      have e8 : (o == 8) = false := by rw [beq_eq_false_iff_ne]; omega
      clear h h1
      rcases (show decide (x < 1) = true ∨ decide (x < 1) = false by cases decide (x < 1) <;> simp) with d0 | d0
      · replace H := hide (show rgtE o x = 9 by rw [H.out]; exact if_neg (by simp at d0; omega))
        clear hd0
        go_enter Tryz.func84, Tryz.ntmps84
        go_wp2_with (go_at_call 112; refine (rWidth_q _ 1 _ HW.out).mono ?_; rintro e w' ⟨rfl, rfl⟩)
        go_ret
        exact ⟨ret_int H.out.symm, below_box _ _⟩
      · rcases (show decide (16 < x) = true ∨ decide (16 < x) = false by cases decide (16 < x) <;> simp) with d1 | d1
        · replace H := hide (show rgtE o x = 9 by rw [H.out]; exact if_neg (by simp at d1; omega))
          clear hd0
          go_enter Tryz.func84, Tryz.ntmps84
          go_wp2_with (go_at_call 112; refine (rWidth_q _ 1 _ HW.out).mono ?_; rintro e w' ⟨rfl, rfl⟩)
          go_ret
          exact ⟨ret_int H.out.symm, below_box _ _⟩
        · replace H := hide (show rgtE o x = 0 by rw [H.out]; exact if_pos (by simp at d0 d1; omega))
          have d2 : decide (x < 0) = false := by simp at d0 ⊢; omega
          have d3 : decide (255 < x) = false := by simp at d1 ⊢; omega
          clear hd0
          go_enter Tryz.func84, Tryz.ntmps84
          go_wp2_with (go_at_call 112; refine (rWidth_q _ 1 _ HW.out).mono ?_; rintro e w' ⟨rfl, rfl⟩)
          go_ret
          exact ⟨ret_int H.out.symm, below_box _ _⟩
    · have HW := hide (show wid o = 2 by rcases h1 with rfl | rfl <;> decide)
      have H := hide (show rgtE o x = inE x 0 65535 10 by rcases h1 with rfl | rfl <;> rfl)
      have e8 : (o == 8) = false := by rw [beq_eq_false_iff_ne]; omega
      have e9 : (o == 9) = false := by rw [beq_eq_false_iff_ne]; omega
      clear h h1
      rcases hd0 with d0 | d0
      · replace H := hide (show rgtE o x = 10 by rw [H.out]; exact if_neg (by simp at d0; omega))
        go_enter Tryz.func84, Tryz.ntmps84
        go_wp2_with (go_at_call 112; refine (rWidth_q _ 2 _ HW.out).mono ?_; rintro e w' ⟨rfl, rfl⟩)
        go_ret
        exact ⟨ret_int H.out.symm, below_box _ _⟩
      · rcases (show decide (65535 < x) = true ∨ decide (65535 < x) = false by cases decide (65535 < x) <;> simp) with d1 | d1
        · replace H := hide (show rgtE o x = 10 by rw [H.out]; exact if_neg (by simp at d1; omega))
          go_enter Tryz.func84, Tryz.ntmps84
          go_wp2_with (go_at_call 112; refine (rWidth_q _ 2 _ HW.out).mono ?_; rintro e w' ⟨rfl, rfl⟩)
          go_ret
          exact ⟨ret_int H.out.symm, below_box _ _⟩
        · replace H := hide (show rgtE o x = 0 by rw [H.out]; exact if_pos (by simp at d0 d1; omega))
          go_enter Tryz.func84, Tryz.ntmps84
          go_wp2_with (go_at_call 112; refine (rWidth_q _ 2 _ HW.out).mono ?_; rintro e w' ⟨rfl, rfl⟩)
          go_ret
          exact ⟨ret_int H.out.symm, below_box _ _⟩
  · have HW := hide (wid_out h)
    have H := hide (rgt_bad (x := x) (wid_out h))
    clear h hd0
    go_enter Tryz.func84, Tryz.ntmps84
    go_wp2_with (go_at_call 112; refine (rWidth_q _ 0 _ HW.out).mono ?_; rintro e w' ⟨rfl, rfl⟩)
    go_ret
    exact ⟨ret_int H.out.symm, below_box _ _⟩
theorem rBytes_core (k p q : Nat) (x : Int) (w : World) (H : Hid (rgtE (k : Int) x = 0 ∧ plN x = p ∧ p < 256 ^ q ∧ wid (k : Int) = q ∧ (1 ≤ (k : Int) ∧ (k : Int) ≤ 11) ∧ (-2147483648 ≤ x ∧ x ≤ 2147483647))) (hk : k ≤ 11) (hp : p ≤ 4294967295) (hq : q ≤ 4) (hq1 : 1 ≤ q) :
    Calls Tryz.prog 90 #[.agg #[.int .i64 (k : Int), .int .i32 x]] w (Gives w (leB 1 k ++ leB q p) 0) := by
  go_enter Tryz.func90, Tryz.ntmps90
  go_wp2_with (go_at_call 84; refine (irRight_any _ _ _).mono ?_; rintro e w2 ⟨rfl, hb⟩; rw [H.out.1]; obtain ⟨c0, c1, hb2, hs2⟩ := boxed hb; clear hb)
  have d0 : w2.drew.cell? ⟨w.heap.size, 0, none⟩ = some (.int .i64 (k : Int)) := c0
  have d1 : w2.drew.cell? ⟨w.heap.size, 1, none⟩ = some (.int .i32 x) := c1
  have HB := hide hb2.drew
  have hs4 : w.heap.size < w2.drew.heap.size := hs2
  clear hb2 c0 c1 hs2
  have hwp : IntKind.u64.wrap (p : Int) = (p : Int) := by simp [IntKind.wrap, IntKind.signed, IntKind.bits]; omega
  have hwk : IntKind.u8.wrap (k : Int) = (k : Int) := by simp [IntKind.wrap, IntKind.signed, IntKind.bits]; omega
  refine wp_region_held_drew (S := fun w' => w'.cell? ⟨w.heap.size, 0, none⟩ = some (.int .i64 (k : Int)) ∧ w'.cell? ⟨w.heap.size, 1, none⟩ = some (.int .i32 x)) (by kernel_rfl) ⟨d0, d1⟩ (fun hS0 => ?_)
  generalize w2.drew = w4 at *
  refine wpAnyH_take (i := 0) (v := .pointer (some ⟨w.heap.size, 0, none⟩)) rfl (by kernel_rfl) (by kernel_rfl) (by kernel_rfl) (fun _ _ _ h => h) (Or.inl ⟨by rfl, fun w _ => by go_simp⟩) (by assumption) ?_
  simp only [List.getElem_toArray, List.getElem_cons_zero, Act.put, List.setIfInBounds_toArray, List.set_cons_zero, List.set_cons_succ]
  refine wpAnyH_take (i := 1) (v := .int .i64 (k : Int)) rfl (by kernel_rfl) (by kernel_rfl) (by kernel_rfl) (fun _ _ _ h => h) (Or.inl ⟨by rfl, fun w h => by have h9 := h.1; go_simp⟩) (by assumption) ?_
  simp only [List.getElem_toArray, List.getElem_cons_zero, List.getElem_cons_succ, Act.put, List.setIfInBounds_toArray, List.set_cons_zero, List.set_cons_succ]
  refine wpAnyH_take (i := 2) (v := .int .u8 (k : Int)) rfl (by kernel_rfl) (by kernel_rfl) (by kernel_rfl) (fun _ _ _ h => h) (Or.inl ⟨by rfl, fun w _ => by go_simp⟩) (by assumption) ?_
  simp only [List.getElem_toArray, List.getElem_cons_zero, List.getElem_cons_succ, Act.put, List.setIfInBounds_toArray, List.set_cons_zero, List.set_cons_succ]
  refine wpAnyH_take (i := 4) (v := .pointer (some ⟨w.heap.size, 0, none⟩)) rfl (by kernel_rfl) (by kernel_rfl) (by kernel_rfl) (fun _ _ _ h => h) (Or.inl ⟨by rfl, fun w _ => by go_simp⟩) (by assumption) ?_
  simp only [List.getElem_toArray, List.getElem_cons_zero, List.getElem_cons_succ, Act.put, List.setIfInBounds_toArray, List.set_cons_zero, List.set_cons_succ]
  refine wpAnyH_take (i := 5) (v := .int .i64 (k : Int)) rfl (by kernel_rfl) (by kernel_rfl) (by kernel_rfl) (fun _ _ _ h => h) (Or.inl ⟨by rfl, fun w h => by have h9 := h.1; go_simp⟩) (by assumption) ?_
  simp only [List.getElem_toArray, List.getElem_cons_zero, List.getElem_cons_succ, Act.put, List.setIfInBounds_toArray, List.set_cons_zero, List.set_cons_succ]
  refine wpAnyH_take (i := 7) (v := .pointer (some ⟨w.heap.size, 1, none⟩)) rfl (by kernel_rfl) (by kernel_rfl) (by kernel_rfl) (fun _ _ _ h => h) (Or.inl ⟨by rfl, fun w _ => by go_simp⟩) (by assumption) ?_
  simp only [List.getElem_toArray, List.getElem_cons_zero, List.getElem_cons_succ, Act.put, List.setIfInBounds_toArray, List.set_cons_zero, List.set_cons_succ]
  refine wpAnyH_take (i := 8) (v := .int .i32 x) rfl (by kernel_rfl) (by kernel_rfl) (by kernel_rfl) (fun _ _ _ h => h) (Or.inl ⟨by rfl, fun w h => by have h9 := h.2; go_simp⟩) (by assumption) ?_
  simp only [List.getElem_toArray, List.getElem_cons_zero, List.getElem_cons_succ, Act.put, List.setIfInBounds_toArray, List.set_cons_zero, List.set_cons_succ]
  refine wpAnyH_ready (rs := [3, 6]) (by kernel_rfl) (by simp) ?_
  refine AllReadyH.cons rfl (fun K hKK => ?_) (AllReadyH.cons rfl (fun K hKK => ?_) AllReadyH.nil)
  · go_simp
    refine hKK.out _ _ (⟨((below_box w4 _).cell (p := ⟨w.heap.size, 0, none⟩) hs4).trans d0, ((below_box w4 _).cell (p := ⟨w.heap.size, 1, none⟩) hs4).trans d1⟩) (fun hS3 => ?_)
    clear hKK
    refine wpAnyH_ready (rs := [6]) (by kernel_rfl) (by simp) ?_
    refine AllReadyH.cons rfl (fun K hKK => ?_) AllReadyH.nil
    go_simp
    refine (rWidth_q (k : Int) q _ H.out.2.2.2.1).mono ?_
    rintro e w' ⟨rfl, rfl⟩
    refine hKK.out _ _ (⟨((below_box w4 _).cell (p := ⟨w.heap.size, 0, none⟩) hs4).trans d0, ((below_box w4 _).cell (p := ⟨w.heap.size, 1, none⟩) hs4).trans d1⟩) (fun hS6 => ?_)
    clear hKK
    refine wpAnyH_ready (rs := [9]) (by kernel_rfl) (by simp) ?_
    refine AllReadyH.cons rfl (fun K hKK => ?_) AllReadyH.nil
    go_simp
    refine (rPlain_p _ _ H.out.2.2.2.2.2 p H.out.2.1).mono ?_
    rintro e w' ⟨rfl, rfl⟩
    refine hKK.out _ _ (⟨((below_box w4 _).cell (p := ⟨w.heap.size, 0, none⟩) hs4).trans d0, ((below_box w4 _).cell (p := ⟨w.heap.size, 1, none⟩) hs4).trans d1⟩) (fun hS9 => ?_)
    clear hKK
    refine wpAnyH_take (i := 10) (v := .int .u64 (p : Int)) rfl (by kernel_rfl) (by kernel_rfl) (by kernel_rfl) (fun _ _ _ h => h) (Or.inl ⟨by rfl, fun w _ => by go_simp⟩) (by assumption) ?_
    simp only [List.getElem_toArray, List.getElem_cons_zero, List.getElem_cons_succ, Act.put, List.setIfInBounds_toArray, List.set_cons_zero, List.set_cons_succ]
    refine wpAnyH_ready (rs := [11]) (by kernel_rfl) (by simp) ?_
    refine AllReadyH.cons rfl (fun K hKK => ?_) AllReadyH.nil
    go_simp
    refine (rPut_ok _ _ _ _ _ q p _ _ rfl (row_one w4 k hk) (by simp) (by omega) (by omega) H.out.2.2.1 hp).mono ?_
    rintro e w5 ⟨A5, n5, c5, rfl, ho5, hb5⟩
    refine hKK.out _ _ (⟨(hb5.cell (p := ⟨w.heap.size, 0, none⟩) (by simp; omega)).trans (((below_box w4 _).cell (p := ⟨w.heap.size, 0, none⟩) hs4).trans d0), (hb5.cell (p := ⟨w.heap.size, 1, none⟩) (by simp; omega)).trans (((below_box w4 _).cell (p := ⟨w.heap.size, 1, none⟩) hs4).trans d1)⟩) (fun hS11 => ?_)
    clear hKK
    refine wpAnyH_take (i := 12) (v := .tuple #[.slice A5 n5 c5, .int .i64 0]) rfl (by kernel_rfl) (by kernel_rfl) (by kernel_rfl) (fun _ _ _ h => h) (Or.inl ⟨by rfl, fun w _ => by go_simp⟩) (by assumption) ?_
    simp only [List.getElem_toArray, List.getElem_cons_zero, List.getElem_cons_succ, Act.put, List.setIfInBounds_toArray, List.set_cons_zero, List.set_cons_succ]
    refine wpAnyH_take (i := 13) (v := .slice A5 n5 c5) rfl (by kernel_rfl) (by kernel_rfl) (by kernel_rfl) (fun _ _ _ h => h) (Or.inl ⟨by rfl, fun w _ => by go_simp⟩) (by assumption) ?_
    simp only [List.getElem_toArray, List.getElem_cons_zero, List.getElem_cons_succ, Act.put, List.setIfInBounds_toArray, List.set_cons_zero, List.set_cons_succ]
    refine wpAnyH_take (i := 14) (v := .int .i64 0) rfl (by kernel_rfl) (by kernel_rfl) (by kernel_rfl) (fun _ _ _ h => h) (Or.inl ⟨by rfl, fun w _ => by go_simp⟩) (by assumption) ?_
    simp only [List.getElem_toArray, List.getElem_cons_zero, List.getElem_cons_succ, Act.put, List.setIfInBounds_toArray, List.set_cons_zero, List.set_cons_succ]
    refine wpAnyH_take (i := 15) (v := .slice A5 n5 c5) rfl (by kernel_rfl) (by kernel_rfl) (by kernel_rfl) (fun _ _ _ h => h) (Or.inl ⟨by rfl, fun w _ => by go_simp⟩) (by assumption) ?_
    simp only [List.getElem_toArray, List.getElem_cons_zero, List.getElem_cons_succ, Act.put, List.setIfInBounds_toArray, List.set_cons_zero, List.set_cons_succ]
    refine wpAnyH_take (i := 16) (v := .int .i64 0) rfl (by kernel_rfl) (by kernel_rfl) (by kernel_rfl) (fun _ _ _ h => h) (Or.inl ⟨by rfl, fun w _ => by go_simp⟩) (by assumption) ?_
    simp only [List.getElem_toArray, List.getElem_cons_zero, List.getElem_cons_succ, Act.put, List.setIfInBounds_toArray, List.set_cons_zero, List.set_cons_succ]
    refine wpAnyH_done (by kernel_rfl) ?_ _
    go_wp2
    go_ret2
    exact ⟨A5, n5, c5, rfl, own_base (Nat.le_trans HB.out.size (by simp)) ho5, (HB.out.alloc HB.out.size _).trans (hb5.mono (Nat.le_trans HB.out.size (by simp)))⟩
  · go_simp
    refine (rWidth_q (k : Int) q _ H.out.2.2.2.1).mono ?_
    rintro e w' ⟨rfl, rfl⟩
    refine hKK.out _ _ (⟨d0, d1⟩) (fun hS6 => ?_)
    clear hKK
    refine wpAnyH_ready (rs := [3, 9]) (by kernel_rfl) (by simp) ?_
    refine AllReadyH.cons rfl (fun K hKK => ?_) (AllReadyH.cons rfl (fun K hKK => ?_) AllReadyH.nil)
    · go_simp
      refine hKK.out _ _ (⟨((below_box w4 _).cell (p := ⟨w.heap.size, 0, none⟩) hs4).trans d0, ((below_box w4 _).cell (p := ⟨w.heap.size, 1, none⟩) hs4).trans d1⟩) (fun hS3 => ?_)
      clear hKK
      refine wpAnyH_ready (rs := [9]) (by kernel_rfl) (by simp) ?_
      refine AllReadyH.cons rfl (fun K hKK => ?_) AllReadyH.nil
      go_simp
      refine (rPlain_p _ _ H.out.2.2.2.2.2 p H.out.2.1).mono ?_
      rintro e w' ⟨rfl, rfl⟩
      refine hKK.out _ _ (⟨((below_box w4 _).cell (p := ⟨w.heap.size, 0, none⟩) hs4).trans d0, ((below_box w4 _).cell (p := ⟨w.heap.size, 1, none⟩) hs4).trans d1⟩) (fun hS9 => ?_)
      clear hKK
      refine wpAnyH_take (i := 10) (v := .int .u64 (p : Int)) rfl (by kernel_rfl) (by kernel_rfl) (by kernel_rfl) (fun _ _ _ h => h) (Or.inl ⟨by rfl, fun w _ => by go_simp⟩) (by assumption) ?_
      simp only [List.getElem_toArray, List.getElem_cons_zero, List.getElem_cons_succ, Act.put, List.setIfInBounds_toArray, List.set_cons_zero, List.set_cons_succ]
      refine wpAnyH_ready (rs := [11]) (by kernel_rfl) (by simp) ?_
      refine AllReadyH.cons rfl (fun K hKK => ?_) AllReadyH.nil
      go_simp
      refine (rPut_ok _ _ _ _ _ q p _ _ rfl (row_one w4 k hk) (by simp) (by omega) (by omega) H.out.2.2.1 hp).mono ?_
      rintro e w5 ⟨A5, n5, c5, rfl, ho5, hb5⟩
      refine hKK.out _ _ (⟨(hb5.cell (p := ⟨w.heap.size, 0, none⟩) (by simp; omega)).trans (((below_box w4 _).cell (p := ⟨w.heap.size, 0, none⟩) hs4).trans d0), (hb5.cell (p := ⟨w.heap.size, 1, none⟩) (by simp; omega)).trans (((below_box w4 _).cell (p := ⟨w.heap.size, 1, none⟩) hs4).trans d1)⟩) (fun hS11 => ?_)
      clear hKK
      refine wpAnyH_take (i := 12) (v := .tuple #[.slice A5 n5 c5, .int .i64 0]) rfl (by kernel_rfl) (by kernel_rfl) (by kernel_rfl) (fun _ _ _ h => h) (Or.inl ⟨by rfl, fun w _ => by go_simp⟩) (by assumption) ?_
      simp only [List.getElem_toArray, List.getElem_cons_zero, List.getElem_cons_succ, Act.put, List.setIfInBounds_toArray, List.set_cons_zero, List.set_cons_succ]
      refine wpAnyH_take (i := 13) (v := .slice A5 n5 c5) rfl (by kernel_rfl) (by kernel_rfl) (by kernel_rfl) (fun _ _ _ h => h) (Or.inl ⟨by rfl, fun w _ => by go_simp⟩) (by assumption) ?_
      simp only [List.getElem_toArray, List.getElem_cons_zero, List.getElem_cons_succ, Act.put, List.setIfInBounds_toArray, List.set_cons_zero, List.set_cons_succ]
      refine wpAnyH_take (i := 14) (v := .int .i64 0) rfl (by kernel_rfl) (by kernel_rfl) (by kernel_rfl) (fun _ _ _ h => h) (Or.inl ⟨by rfl, fun w _ => by go_simp⟩) (by assumption) ?_
      simp only [List.getElem_toArray, List.getElem_cons_zero, List.getElem_cons_succ, Act.put, List.setIfInBounds_toArray, List.set_cons_zero, List.set_cons_succ]
      refine wpAnyH_take (i := 15) (v := .slice A5 n5 c5) rfl (by kernel_rfl) (by kernel_rfl) (by kernel_rfl) (fun _ _ _ h => h) (Or.inl ⟨by rfl, fun w _ => by go_simp⟩) (by assumption) ?_
      simp only [List.getElem_toArray, List.getElem_cons_zero, List.getElem_cons_succ, Act.put, List.setIfInBounds_toArray, List.set_cons_zero, List.set_cons_succ]
      refine wpAnyH_take (i := 16) (v := .int .i64 0) rfl (by kernel_rfl) (by kernel_rfl) (by kernel_rfl) (fun _ _ _ h => h) (Or.inl ⟨by rfl, fun w _ => by go_simp⟩) (by assumption) ?_
      simp only [List.getElem_toArray, List.getElem_cons_zero, List.getElem_cons_succ, Act.put, List.setIfInBounds_toArray, List.set_cons_zero, List.set_cons_succ]
      refine wpAnyH_done (by kernel_rfl) ?_ _
      go_wp2
      go_ret2
      exact ⟨A5, n5, c5, rfl, own_base (Nat.le_trans HB.out.size (by simp)) ho5, (HB.out.alloc HB.out.size _).trans (hb5.mono (Nat.le_trans HB.out.size (by simp)))⟩
    · go_simp
      refine (rPlain_p _ _ H.out.2.2.2.2.2 p H.out.2.1).mono ?_
      rintro e w' ⟨rfl, rfl⟩
      refine hKK.out _ _ (⟨d0, d1⟩) (fun hS9 => ?_)
      clear hKK
      refine wpAnyH_take (i := 10) (v := .int .u64 (p : Int)) rfl (by kernel_rfl) (by kernel_rfl) (by kernel_rfl) (fun _ _ _ h => h) (Or.inl ⟨by rfl, fun w _ => by go_simp⟩) (by assumption) ?_
      simp only [List.getElem_toArray, List.getElem_cons_zero, List.getElem_cons_succ, Act.put, List.setIfInBounds_toArray, List.set_cons_zero, List.set_cons_succ]
      refine wpAnyH_ready (rs := [3]) (by kernel_rfl) (by simp) ?_
      refine AllReadyH.cons rfl (fun K hKK => ?_) AllReadyH.nil
      go_simp
      refine hKK.out _ _ (⟨((below_box w4 _).cell (p := ⟨w.heap.size, 0, none⟩) hs4).trans d0, ((below_box w4 _).cell (p := ⟨w.heap.size, 1, none⟩) hs4).trans d1⟩) (fun hS3 => ?_)
      clear hKK
      refine wpAnyH_ready (rs := [11]) (by kernel_rfl) (by simp) ?_
      refine AllReadyH.cons rfl (fun K hKK => ?_) AllReadyH.nil
      go_simp
      refine (rPut_ok _ _ _ _ _ q p _ _ rfl (row_one w4 k hk) (by simp) (by omega) (by omega) H.out.2.2.1 hp).mono ?_
      rintro e w5 ⟨A5, n5, c5, rfl, ho5, hb5⟩
      refine hKK.out _ _ (⟨(hb5.cell (p := ⟨w.heap.size, 0, none⟩) (by simp; omega)).trans (((below_box w4 _).cell (p := ⟨w.heap.size, 0, none⟩) hs4).trans d0), (hb5.cell (p := ⟨w.heap.size, 1, none⟩) (by simp; omega)).trans (((below_box w4 _).cell (p := ⟨w.heap.size, 1, none⟩) hs4).trans d1)⟩) (fun hS11 => ?_)
      clear hKK
      refine wpAnyH_take (i := 12) (v := .tuple #[.slice A5 n5 c5, .int .i64 0]) rfl (by kernel_rfl) (by kernel_rfl) (by kernel_rfl) (fun _ _ _ h => h) (Or.inl ⟨by rfl, fun w _ => by go_simp⟩) (by assumption) ?_
      simp only [List.getElem_toArray, List.getElem_cons_zero, List.getElem_cons_succ, Act.put, List.setIfInBounds_toArray, List.set_cons_zero, List.set_cons_succ]
      refine wpAnyH_take (i := 13) (v := .slice A5 n5 c5) rfl (by kernel_rfl) (by kernel_rfl) (by kernel_rfl) (fun _ _ _ h => h) (Or.inl ⟨by rfl, fun w _ => by go_simp⟩) (by assumption) ?_
      simp only [List.getElem_toArray, List.getElem_cons_zero, List.getElem_cons_succ, Act.put, List.setIfInBounds_toArray, List.set_cons_zero, List.set_cons_succ]
      refine wpAnyH_take (i := 14) (v := .int .i64 0) rfl (by kernel_rfl) (by kernel_rfl) (by kernel_rfl) (fun _ _ _ h => h) (Or.inl ⟨by rfl, fun w _ => by go_simp⟩) (by assumption) ?_
      simp only [List.getElem_toArray, List.getElem_cons_zero, List.getElem_cons_succ, Act.put, List.setIfInBounds_toArray, List.set_cons_zero, List.set_cons_succ]
      refine wpAnyH_take (i := 15) (v := .slice A5 n5 c5) rfl (by kernel_rfl) (by kernel_rfl) (by kernel_rfl) (fun _ _ _ h => h) (Or.inl ⟨by rfl, fun w _ => by go_simp⟩) (by assumption) ?_
      simp only [List.getElem_toArray, List.getElem_cons_zero, List.getElem_cons_succ, Act.put, List.setIfInBounds_toArray, List.set_cons_zero, List.set_cons_succ]
      refine wpAnyH_take (i := 16) (v := .int .i64 0) rfl (by kernel_rfl) (by kernel_rfl) (by kernel_rfl) (fun _ _ _ h => h) (Or.inl ⟨by rfl, fun w _ => by go_simp⟩) (by assumption) ?_
      simp only [List.getElem_toArray, List.getElem_cons_zero, List.getElem_cons_succ, Act.put, List.setIfInBounds_toArray, List.set_cons_zero, List.set_cons_succ]
      refine wpAnyH_done (by kernel_rfl) ?_ _
      go_wp2
      go_ret2
      exact ⟨A5, n5, c5, rfl, own_base (Nat.le_trans HB.out.size (by simp)) ho5, (HB.out.alloc HB.out.size _).trans (hb5.mono (Nat.le_trans HB.out.size (by simp)))⟩
theorem irBytes_any (o x : Int) (w : World) (hx : -2147483648 ≤ x ∧ x ≤ 2147483647) : Calls Tryz.prog 90 #[.agg #[.int .i64 o, .int .i32 x]] w (Gives w (bytI o x) (rgtE o x)) := by
  by_cases h : rgtE o x = 0
  · have ho := rgt_op h
    obtain ⟨k, rfl⟩ : ∃ k : Nat, o = (k : Int) := ⟨o.toNat, by omega⟩
    have hr := (rgt_range hx h).1
    have hq := wid_le (k : Int)
    have hp := p256_le hq
    rw [bytI_ok h, h, show insB (k : Int) x = leB 1 k ++ leB (wid (k : Int)) (plN x) by unfold insB; rw [Int.toNat_natCast]; simp [leB_cons, leB_zero]]
    exact rBytes_core k (plN x) (wid (k : Int)) x w (hide ⟨h, rfl, hr, rfl, ho, hx⟩) (by omega) (by omega) hq (wid_pos ho)
  · have H := hide (bytI_bad h)
    have hn : (rgtE o x != 0) = true := by simpa using h
    go_enter Tryz.func90, Tryz.ntmps90
    go_wp2_with (go_at_call 84; refine (irRight_any _ _ _).mono ?_; rintro e w2 ⟨rfl, hb⟩; obtain ⟨c0, c1, hb2, hs2⟩ := boxed hb; clear hb)
    go_ret2
    rw [H.out]
    exact Gives.of rfl (World.ownsRow_nil _ _ _ _) hb2
end Go.Proofs.YtdikiabjkmigdaaGreatDoor
