/-
  Contracts: isa.Size, isa.Bytes; of the reference Right, Bytes, Size.
-/
import Derived.Test.YtdikiabjkmigdaaDoorIPkg
namespace Go.Proofs.YtdikiabjkmigdaaDoor
set_option maxRecDepth 20000
open Go.RowKit
set_option maxHeartbeats 1000000

theorem boxed {w w2 : World} {o x : Int} {T : TypeId} (h : Below (w.alloc (.cells #[.int .i64 o, .int .i32 x] T)).heap.size (w.alloc (.cells #[.int .i64 o, .int .i32 x] T)) w2) :
    w2.cell? ⟨w.heap.size, 0, none⟩ = some (.int .i64 o) ∧ w2.cell? ⟨w.heap.size, 1, none⟩ = some (.int .i32 x) ∧ Below w.heap.size w w2 ∧ w.heap.size < w2.heap.size := by
  have hs := h.size
  have hlt : w.heap.size < (w.alloc (.cells #[.int .i64 o, .int .i32 x] T)).heap.size := by simp
  refine ⟨(h.cell (p := ⟨w.heap.size, 0, none⟩) hlt).trans (by simp), (h.cell (p := ⟨w.heap.size, 1, none⟩) hlt).trans (by simp), (below_box w _).trans (h.mono (by simp)), by omega⟩
theorem Plain_p (x : Int) (w : World) (p : Nat) (hp : plN x = p) : Calls Tryd.prog 57 #[.int .i32 x] w fun e w' => e = .returned (.int .u32 (p : Int)) ∧ w = w' := by
  refine (Plain_any x w).mono ?_
  rintro e w' ⟨rfl, rfl⟩
  refine ⟨ret_int ?_, rfl⟩
  subst hp; unfold plN; omega
theorem Put_ok (B : Nat) (A : Option Addr) (n c : Nat) (l : List UInt8) (k v : Nat) (K : Int) (w : World) (hK : K = k) (hr : Row w B A n c (cs8 l)) (hB : B ≤ w.heap.size) (hl : n ≤ 1099511627776) (hk : 1 ≤ k ∧ k ≤ 8) (hv : v < 256 ^ k) :
    Calls Tryd.prog 32 #[.slice A n c, .int .i64 K, .int .u64 (v : Int)] w (Gives w (l ++ leB k v) 0) := by
  subst hK
  have e0 : putE (k : Int) v = 0 := by rw [putE_nat hk, if_pos hv]
  have := Put_any B A n c l (k : Int) v w hr hB hl
  rwa [e0, putL_ok e0] at this
theorem formatOf_f (o f : Int) (w : World) (h : fmtV o = f) : Calls Tryd.prog 70 #[.int .i64 o] w fun e w' => e = .returned (.int .i64 f) ∧ w = w' := by
  subst h; exact formatOf_any o w
theorem widthOf_q (o f : Int) (q : Nat) (w : World) (h : 1 ≤ o ∧ o ≤ 11) (hf : fmtV o = f) (hq : wid o = q) : Calls Tryd.prog 72 #[.int .i64 f] w fun e w' => e = .returned (.int .i64 (q : Int)) ∧ w = w' := by
  subst hf; subst hq; exact widthOf_any o w h
theorem Bytes_core (k p q : Nat) (f x : Int) (w : World) (H : Hid (rgtE (k : Int) x = 0 ∧ plN x = p ∧ p < 256 ^ q ∧ wid (k : Int) = q ∧ fmtV (k : Int) = f ∧ (1 ≤ (k : Int) ∧ (k : Int) ≤ 11))) (hk : k ≤ 11) (hp : p ≤ 4294967295) (hq : q ≤ 4) (hq1 : 1 ≤ q) :
    Calls Tryd.prog 59 #[.agg #[.int .i64 (k : Int), .int .i32 x]] w (Gives w (leB 1 k ++ leB q p) 0) := by
  go_enter Tryd.func59, Tryd.ntmps59
  go_wp2_with (first
    | (go_at_call 49; refine (iRight_any _ _ _).mono ?_; rintro e w2 ⟨rfl, hb⟩; rw [H.out.1]; obtain ⟨c0, c1, hb2, hs2⟩ := boxed hb; clear hb)
    | (go_at_call 32; refine (Put_ok 0 _ _ _ [] 1 k _ _ rfl Row.none_ (Nat.zero_le _) (by omega) (by omega) (by omega)).mono ?_; rintro e w3 ⟨A3, n3, c3, rfl, ho3, hb3⟩))
  have hb4 : Below w.heap.size w w3 := hb2.trans (hb3.mono (by omega))
  replace c0 := (hb3.cell (p := ⟨w.heap.size, 0, none⟩) hs2).trans c0
  replace c1 := (hb3.cell (p := ⟨w.heap.size, 1, none⟩) hs2).trans c1
  have hn3 : n3 = 1 := by have := own8_len ho3; simpa [leB_len] using this.symm
  subst hn3
  have hR : Row w3 w3.heap.size A3 1 c3 (cs8 (leB 1 k)) := Row.of_own ho3
  have hs3 : w.heap.size < w3.heap.size := by have := hb3.size; omega
  clear hb2 hs2 ho3 hb3
  have d0 : w3.drew.cell? ⟨w.heap.size, 0, none⟩ = some (.int .i64 (k : Int)) := c0
  have d1 : w3.drew.cell? ⟨w.heap.size, 1, none⟩ = some (.int .i32 x) := c1
  have hR4 : Row w3.drew w3.drew.heap.size A3 1 c3 (cs8 (leB 1 k)) := hR.keep (Below.refl _ w3).drew (Nat.le_refl _)
  have HB := hide hb4.drew
  clear hb4 c0 c1 hR
  have hs4 : w.heap.size < w3.drew.heap.size := by have := hs3; exact this
  refine wp_region_held_drew (S := fun w' => w'.cell? ⟨w.heap.size, 0, none⟩ = some (.int .i64 (k : Int)) ∧ w'.cell? ⟨w.heap.size, 1, none⟩ = some (.int .i32 x)) (by kernel_rfl) ⟨d0, d1⟩ (fun hS0 => ?_)
  have hwp : IntKind.u64.wrap (p : Int) = (p : Int) := by simp [IntKind.wrap, IntKind.signed, IntKind.bits]; omega
  generalize w3.drew = w4 at *
  refine wpAnyH_take (i := 0) (v := .slice A3 1 c3) rfl (by kernel_rfl) (by kernel_rfl) (by kernel_rfl) (fun _ _ _ h => h) (Or.inl ⟨by rfl, fun w _ => by go_simp⟩) (by assumption) ?_
  simp only [List.getElem_toArray, List.getElem_cons_zero, Act.put, List.setIfInBounds_toArray, List.set_cons_zero, List.set_cons_succ]
  refine wpAnyH_take (i := 1) (v := .pointer (some ⟨w.heap.size, 0, none⟩)) rfl (by kernel_rfl) (by kernel_rfl) (by kernel_rfl) (fun _ _ _ h => h) (Or.inl ⟨by rfl, fun w _ => by go_simp⟩) (by assumption) ?_
  simp only [List.getElem_toArray, List.getElem_cons_zero, List.getElem_cons_succ, Act.put, List.setIfInBounds_toArray, List.set_cons_zero, List.set_cons_succ]
  refine wpAnyH_take (i := 2) (v := .int .i64 (k : Int)) rfl (by kernel_rfl) (by kernel_rfl) (by kernel_rfl) (fun _ _ _ h => h) (Or.inl ⟨by rfl, fun w h => by have h9 := h.1; go_simp⟩) (by assumption) ?_
  simp only [List.getElem_toArray, List.getElem_cons_zero, List.getElem_cons_succ, Act.put, List.setIfInBounds_toArray, List.set_cons_zero, List.set_cons_succ]
  refine wpAnyH_take (i := 5) (v := .pointer (some ⟨w.heap.size, 1, none⟩)) rfl (by kernel_rfl) (by kernel_rfl) (by kernel_rfl) (fun _ _ _ h => h) (Or.inl ⟨by rfl, fun w _ => by go_simp⟩) (by assumption) ?_
  simp only [List.getElem_toArray, List.getElem_cons_zero, List.getElem_cons_succ, Act.put, List.setIfInBounds_toArray, List.set_cons_zero, List.set_cons_succ]
  refine wpAnyH_take (i := 6) (v := .int .i32 x) rfl (by kernel_rfl) (by kernel_rfl) (by kernel_rfl) (fun _ _ _ h => h) (Or.inl ⟨by rfl, fun w h => by have h9 := h.2; go_simp⟩) (by assumption) ?_
  simp only [List.getElem_toArray, List.getElem_cons_zero, List.getElem_cons_succ, Act.put, List.setIfInBounds_toArray, List.set_cons_zero, List.set_cons_succ]
  refine wpAnyH_ready (rs := [3]) (by kernel_rfl) (by simp) ?_
  refine AllReadyH.cons rfl (fun K hKK => ?_) AllReadyH.nil
  go_simp
  refine (formatOf_f _ f _ H.out.2.2.2.2.1).mono ?_
  rintro e w' ⟨rfl, rfl⟩
  refine hKK.out _ _ (⟨d0, d1⟩) (fun hS3 => ?_)
  clear hKK
  refine wpAnyH_ready (rs := [4]) (by kernel_rfl) (by simp) ?_
  refine AllReadyH.cons rfl (fun K hKK => ?_) AllReadyH.nil
  go_simp
  refine (widthOf_q (k : Int) f q _ H.out.2.2.2.2.2 H.out.2.2.2.2.1 H.out.2.2.2.1).mono ?_
  rintro e w' ⟨rfl, rfl⟩
  refine hKK.out _ _ (⟨d0, d1⟩) (fun hS4 => ?_)
  clear hKK
  refine wpAnyH_ready (rs := [7]) (by kernel_rfl) (by simp) ?_
  refine AllReadyH.cons rfl (fun K hKK => ?_) AllReadyH.nil
  go_simp
  refine (Plain_p _ _ p H.out.2.1).mono ?_
  rintro e w' ⟨rfl, rfl⟩
  refine hKK.out _ _ (⟨d0, d1⟩) (fun hS7 => ?_)
  clear hKK
  refine wpAnyH_take (i := 8) (v := .int .u64 (p : Int)) rfl (by kernel_rfl) (by kernel_rfl) (by kernel_rfl) (fun _ _ _ h => h) (Or.inl ⟨by rfl, fun w _ => by go_simp⟩) (by assumption) ?_
  simp only [List.getElem_toArray, List.getElem_cons_zero, List.getElem_cons_succ, Act.put, List.setIfInBounds_toArray, List.set_cons_zero, List.set_cons_succ]
  refine wpAnyH_ready (rs := [9]) (by kernel_rfl) (by simp) ?_
  refine AllReadyH.cons rfl (fun K hKK => ?_) AllReadyH.nil
  go_simp
  refine (Put_ok _ _ _ _ _ q p _ _ rfl hR4 (Nat.le_refl _) (by omega) (by omega) H.out.2.2.1).mono ?_
  rintro e w5 ⟨A5, n5, c5, rfl, ho5, hb5⟩
  refine hKK.out _ _ (⟨(hb5.cell (p := ⟨w.heap.size, 0, none⟩) hs4).trans d0, (hb5.cell (p := ⟨w.heap.size, 1, none⟩) hs4).trans d1⟩) (fun hS9 => ?_)
  clear hKK
  refine wpAnyH_take (i := 10) (v := .tuple #[.slice A5 n5 c5, .int .i64 0]) rfl (by kernel_rfl) (by kernel_rfl) (by kernel_rfl) (fun _ _ _ h => h) (Or.inl ⟨by rfl, fun w _ => by go_simp⟩) (by assumption) ?_
  simp only [List.getElem_toArray, List.getElem_cons_zero, List.getElem_cons_succ, Act.put, List.setIfInBounds_toArray, List.set_cons_zero, List.set_cons_succ]
  refine wpAnyH_take (i := 12) (v := .int .i64 0) rfl (by kernel_rfl) (by kernel_rfl) (by kernel_rfl) (fun _ _ _ h => h) (Or.inl ⟨by rfl, fun w _ => by go_simp⟩) (by assumption) ?_
  simp only [List.getElem_toArray, List.getElem_cons_zero, List.getElem_cons_succ, Act.put, List.setIfInBounds_toArray, List.set_cons_zero, List.set_cons_succ]
  refine wpAnyH_take (i := 11) (v := .slice A5 n5 c5) rfl (by kernel_rfl) (by kernel_rfl) (by kernel_rfl) (fun _ _ _ h => h) (Or.inl ⟨by rfl, fun w _ => by go_simp⟩) (by assumption) ?_
  simp only [List.getElem_toArray, List.getElem_cons_zero, List.getElem_cons_succ, Act.put, List.setIfInBounds_toArray, List.set_cons_zero, List.set_cons_succ]
  refine wpAnyH_take (i := 13) (v := .slice A5 n5 c5) rfl (by kernel_rfl) (by kernel_rfl) (by kernel_rfl) (fun _ _ _ h => h) (Or.inl ⟨by rfl, fun w _ => by go_simp⟩) (by assumption) ?_
  simp only [List.getElem_toArray, List.getElem_cons_zero, List.getElem_cons_succ, Act.put, List.setIfInBounds_toArray, List.set_cons_zero, List.set_cons_succ]
  refine wpAnyH_done (by kernel_rfl) ?_ _
  go_wp2
  go_ret2
  exact ⟨A5, n5, c5, rfl, own_base HB.out.size ho5, HB.out.trans (hb5.mono HB.out.size)⟩
theorem iBytes_any (o x : Int) (w : World) (hx : -2147483648 ≤ x ∧ x ≤ 2147483647) : Calls Tryd.prog 59 #[.agg #[.int .i64 o, .int .i32 x]] w (Gives w (bytI o x) (rgtE o x)) := by
  by_cases h : rgtE o x = 0
  · have ho := rgt_op h
    obtain ⟨k, rfl⟩ : ∃ k : Nat, o = (k : Int) := ⟨o.toNat, by omega⟩
    have hr := (rgt_range hx h).1
    have hq := wid_le (k : Int)
    have hp := p256_le hq
    rw [bytI_ok h, h, show insB (k : Int) x = leB 1 k ++ leB (wid (k : Int)) (plN x) by unfold insB; rw [Int.toNat_natCast]; simp [leB_cons, leB_zero]]
    exact Bytes_core k (plN x) (wid (k : Int)) (fmtV (k : Int)) x w (hide ⟨h, rfl, hr, rfl, rfl, ho⟩) (by omega) (by omega) hq (wid_pos ho)
  · have H := hide (bytI_bad h)
    have hn : (rgtE o x != 0) = true := by simpa using h
    go_enter Tryd.func59, Tryd.ntmps59
    go_wp2_with (go_at_call 49; refine (iRight_any _ _ _).mono ?_; rintro e w2 ⟨rfl, hb⟩; obtain ⟨c0, c1, hb2, hs2⟩ := boxed hb; clear hb)
    go_ret2
    rw [H.out]
    exact Gives.of rfl (World.ownsRow_nil _ _ _ _) hb2
-- the reference
theorem row_one (w : World) (k : Nat) (hk : k ≤ 11) : Row (w.alloc (.cells #[.int .u8 (k : Int)] 5)) (w.heap.size + 1) (some ⟨w.heap.size, 0, none⟩) 1 1 (cs8 (leB 1 k)) := by
  have e : cs8 (leB 1 k) = [.int .u8 (k : Int)] := by
    simp [leB_cons, leB_zero, cs8, byt_toNat]; omega
  rw [e]; exact Row.one w _ _
end Go.Proofs.YtdikiabjkmigdaaDoor
