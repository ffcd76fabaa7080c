/-
  Contracts of the reference of layer 7: Append.
-/
import Derived.Test.YtahnfkoakaimhaaJRef4
namespace Go.Proofs.Ytahnfkoakaimhaa
open Go.RowKit
set_option maxHeartbeats 4000000

set_option maxRecDepth 10000 in
theorem rApp_lo (gj gf hf k n c An Ac N : Nat) (A A0 : Option Addr) (r : List UInt32) (s : FS) (w : World) (hb : Blk w gj 54 (rjC gf k A0 An Ac N false)) (h1 : gj ≠ gf) (h2 : gj ≠ hf) (f : Rf w gf hf s) (hon : s.on = true)
    (hr : Row w w.heap.size A n c (cs32 r)) (hA : ∀ a, A = some a → a.block ∉ [gj, gf, hf]) (hk : 256 * (k + 2) ≤ s.ws.length) (hn1 : 1 ≤ n) (hn2 : n ≤ 64) (HN : Hid (N = (curV s.ws k).num)) (hN : N ≤ 2147483646) (hops : s.ops ≤ 1152921504606846976) (HS : Hid (¬ (walkW (sect s.ws k)).num < (walkW (sect s.ws (k + 1))).num)) :
    Calls Try.prog 11 #[.pointer (some ⟨gj, 0, none⟩), .slice A n c] w (RApp w gj gf hf k s r A0 An Ac N) := by
  obtain ⟨i0, hi, hz0, hz1, hz2⟩ := info_parts info32
  have hln := hr.len
  rw [cs32_len] at hln
  subst hln
  have hlen := len_pos f.ok
  have hk15 : k ≤ 14 := by omega
  have HSP := hide (app_spec s k r hon hk hn1 hn2 (by rw [← HN.out]; omega))
  have c0 : w.cell? ⟨gj, 0, none⟩ = some (.pointer (some ⟨gf, 0, none⟩)) := hb.cell (j := 0) rfl
  have c2 : w.cell? ⟨gj, 2, none⟩ = some (.bool false) := hb.cell (j := 2) rfl
  have c4 : w.cell? ⟨gj, 4, none⟩ = some (.int .u32 (N : Int)) := hb.cell (j := 4) rfl
  have co : w.cell? ⟨gf, 1, none⟩ = some (.bool false) := by
    obtain ⟨c', m, _, hb', _⟩ := f.ex
    have := hb'.cell (j := 1) (v := .bool (!s.on)) rfl
    rw [hon] at this
    exact this
  have t1 : decide ((r.length : Int) < 1) = false := by simp; omega
  have t2 : decide ((64 : Int) < (r.length : Int)) = false := by simp; omega
  have t3 : decide ((2147483647 : Int) ≤ (N : Int)) = false := by simp; omega
  have hwk : IntKind.i64.wrap ((k : Int) + 1) = (k : Int) + 1 := wrap64_small (by omega) (by omega)
  have hwN : IntKind.u32.wrap ((N : Int) + 1) = (N : Int) + 1 := wrap32_small (by omega) (by omega)
  have HR := hide (And.intro hr hA)
  have hfl := f.lt
  have hfl2 := f.lt2
  have hgl := hb.lt
  clear hr hA hon
  go_enter Try.func11, Try.ntmps11
  go_wp2_with fail
  clear c0 c2 c4 co t1 t2 t3
  have bw : Blk w.drew gj 54 (rjC gf k A0 An Ac N false) := hb.drew
  have kd : Keeps [] w w.drew := (Keeps.refl _ _).drew
  have fd := kd.rf f (by simp) (by simp)
  have hsd : w.heap.size = w.drew.heap.size := rfl
  clear hb f
  have x0 : w.drew.cell? ⟨gj, 0, none⟩ = some (.pointer (some ⟨gf, 0, none⟩)) := bw.cell (j := 0) rfl
  have x1 : w.drew.cell? ⟨gj, 1, none⟩ = some (.int .i64 (k : Int)) := bw.cell (j := 1) rfl
  have x2 : w.drew.cell? ⟨gj, 2, none⟩ = some (.bool false) := bw.cell (j := 2) rfl
  have x4 : w.drew.cell? ⟨gj, 4, none⟩ = some (.int .u32 (N : Int)) := bw.cell (j := 4) rfl
  have z2 := bw.frozen 2
  refine wp_region_held_drew (S := fun w' => w'.cell? ⟨gj, 0, none⟩ = some (.pointer (some ⟨gf, 0, none⟩)) ∧ w'.cell? ⟨gj, 1, none⟩ = some (.int .i64 (k : Int))) (by kernel_rfl) ⟨x0, x1⟩ (fun hS0 => ?_)
  generalize w.drew = wd at bw kd fd hsd x0 x1 x2 x4 z2 hS0 ⊢
  refine wpAnyH_take (i := 0) (v := .pointer (some ⟨gj, 0, none⟩)) rfl (by kernel_rfl) (by kernel_rfl) (by kernel_rfl) (fun _ _ _ h => h) (Or.inl ⟨by rfl, fun w _ => by go_simp⟩) (by assumption) ?_
  simp only [List.getElem_toArray, List.getElem_cons_zero, Act.put, List.setIfInBounds_toArray, List.set_cons_zero, List.set_cons_succ]
  refine wpAnyH_take (i := 1) (v := .pointer (some ⟨gj, 0, none⟩)) rfl (by kernel_rfl) (by kernel_rfl) (by kernel_rfl) (fun _ _ _ h => h) (Or.inl ⟨by rfl, fun w _ => by go_simp⟩) (by assumption) ?_
  simp only [List.getElem_toArray, List.getElem_cons_zero, List.getElem_cons_succ, Act.put, List.setIfInBounds_toArray, List.set_cons_zero, List.set_cons_succ]
  refine wpAnyH_take (i := 2) (v := .pointer (some ⟨gj, 0, none⟩)) rfl (by kernel_rfl) (by kernel_rfl) (by kernel_rfl) (fun _ _ _ h => h) (Or.inl ⟨by rfl, fun w _ => by go_simp⟩) (by assumption) ?_
  simp only [List.getElem_toArray, List.getElem_cons_zero, List.getElem_cons_succ, Act.put, List.setIfInBounds_toArray, List.set_cons_zero, List.set_cons_succ]
  refine wpAnyH_take (i := 3) (v := .pointer (some ⟨gf, 0, none⟩)) rfl (by kernel_rfl) (by kernel_rfl) (by kernel_rfl) (fun _ _ _ h => h) (Or.inl ⟨by rfl, fun w h => by have h9 := h.1; go_simp⟩) (by assumption) ?_
  simp only [List.getElem_toArray, List.getElem_cons_zero, List.getElem_cons_succ, Act.put, List.setIfInBounds_toArray, List.set_cons_zero, List.set_cons_succ]
  refine wpAnyH_take (i := 4) (v := .pointer (some ⟨gj, 0, none⟩)) rfl (by kernel_rfl) (by kernel_rfl) (by kernel_rfl) (fun _ _ _ h => h) (Or.inl ⟨by rfl, fun w _ => by go_simp⟩) (by assumption) ?_
  simp only [List.getElem_toArray, List.getElem_cons_zero, List.getElem_cons_succ, Act.put, List.setIfInBounds_toArray, List.set_cons_zero, List.set_cons_succ]
  refine wpAnyH_take (i := 5) (v := .pointer (some ⟨gj, 0, none⟩)) rfl (by kernel_rfl) (by kernel_rfl) (by kernel_rfl) (fun _ _ _ h => h) (Or.inl ⟨by rfl, fun w _ => by go_simp⟩) (by assumption) ?_
  simp only [List.getElem_toArray, List.getElem_cons_zero, List.getElem_cons_succ, Act.put, List.setIfInBounds_toArray, List.set_cons_zero, List.set_cons_succ]
  refine wpAnyH_take (i := 6) (v := .pointer (some ⟨gj, 1, none⟩)) rfl (by kernel_rfl) (by kernel_rfl) (by kernel_rfl) (fun _ _ _ h => h) (Or.inl ⟨by rfl, fun w _ => by go_simp⟩) (by assumption) ?_
  simp only [List.getElem_toArray, List.getElem_cons_zero, List.getElem_cons_succ, Act.put, List.setIfInBounds_toArray, List.set_cons_zero, List.set_cons_succ]
  refine wpAnyH_take (i := 7) (v := .int .i64 (k : Int)) rfl (by kernel_rfl) (by kernel_rfl) (by kernel_rfl) (fun _ _ _ h => h) (Or.inl ⟨by rfl, fun w h => by have h9 := h.2; go_simp⟩) (by assumption) ?_
  simp only [List.getElem_toArray, List.getElem_cons_zero, List.getElem_cons_succ, Act.put, List.setIfInBounds_toArray, List.set_cons_zero, List.set_cons_succ]
  refine wpAnyH_ready (rs := [8]) (by kernel_rfl) (by simp) ?_
  refine AllReadyH.cons rfl (fun K hKK => ?_) AllReadyH.nil
  go_simp
  refine (rwords_any gf hf k s wd fd (by omega)).mono ?_
  rintro e wz ⟨A2, c2, rfl, r2, rfl⟩
  refine hKK.out _ _ (⟨x0, x1⟩) (fun hS8 => ?_)
  clear hKK
  refine wpAnyH_ready (rs := [9]) (by kernel_rfl) (by simp) ?_
  refine AllReadyH.cons rfl (fun K hKK => ?_) AllReadyH.nil
  go_simp
  refine (rWalk_let (hf + 1) A2 256 c2 (sect s.ws k) wd r2 (by omega) (by omega)).mono ?_
  rintro e w2 ⟨hb2, A3, k3, c3, n3, us3, cl3, rcd3, rfl, r3, HW3, hk3, hn3, hu3⟩
  have k2 : Keeps [] wd w2 := Keeps.of_below hb2
  replace bw := k2.blk bw (by simp)
  have f2 := k2.rf fd (by simp) (by simp)
  have k02 := kd.trans k2 (by simp)
  have hs2 := k02.size
  clear x0 x1 x2 x4 z2 r2 r3 fd kd k2 hb2
  have x0 : w2.cell? ⟨gj, 0, none⟩ = some (.pointer (some ⟨gf, 0, none⟩)) := bw.cell (j := 0) rfl
  have x1 : w2.cell? ⟨gj, 1, none⟩ = some (.int .i64 (k : Int)) := bw.cell (j := 1) rfl
  have x2 : w2.cell? ⟨gj, 2, none⟩ = some (.bool false) := bw.cell (j := 2) rfl
  have x4 : w2.cell? ⟨gj, 4, none⟩ = some (.int .u32 (N : Int)) := bw.cell (j := 4) rfl
  have z2 := bw.frozen 2
  refine hKK.out _ _ (⟨x0, x1⟩) (fun hS9 => ?_)
  clear hKK
  refine wpAnyH_take (i := 10) (v := .tuple #[.int .u32 (n3 : Int), .slice A3 k3 c3, .int .i64 (us3 : Int), .bool cl3]) rfl (by kernel_rfl) (by kernel_rfl) (by kernel_rfl) (fun _ _ _ h => h) (Or.inl ⟨by rfl, fun w _ => by go_simp⟩) (by assumption) ?_
  simp only [List.getElem_toArray, List.getElem_cons_zero, List.getElem_cons_succ, Act.put, List.setIfInBounds_toArray, List.set_cons_zero, List.set_cons_succ]
  refine wpAnyH_take (i := 11) (v := .int .u32 (n3 : Int)) rfl (by kernel_rfl) (by kernel_rfl) (by kernel_rfl) (fun _ _ _ h => h) (Or.inl ⟨by rfl, fun w _ => by go_simp⟩) (by assumption) ?_
  simp only [List.getElem_toArray, List.getElem_cons_zero, List.getElem_cons_succ, Act.put, List.setIfInBounds_toArray, List.set_cons_zero, List.set_cons_succ]
  refine wpAnyH_take (i := 12) (v := .slice A3 k3 c3) rfl (by kernel_rfl) (by kernel_rfl) (by kernel_rfl) (fun _ _ _ h => h) (Or.inl ⟨by rfl, fun w _ => by go_simp⟩) (by assumption) ?_
  simp only [List.getElem_toArray, List.getElem_cons_zero, List.getElem_cons_succ, Act.put, List.setIfInBounds_toArray, List.set_cons_zero, List.set_cons_succ]
  refine wpAnyH_take (i := 13) (v := .int .i64 (us3 : Int)) rfl (by kernel_rfl) (by kernel_rfl) (by kernel_rfl) (fun _ _ _ h => h) (Or.inl ⟨by rfl, fun w _ => by go_simp⟩) (by assumption) ?_
  simp only [List.getElem_toArray, List.getElem_cons_zero, List.getElem_cons_succ, Act.put, List.setIfInBounds_toArray, List.set_cons_zero, List.set_cons_succ]
  refine wpAnyH_take (i := 14) (v := .bool cl3) rfl (by kernel_rfl) (by kernel_rfl) (by kernel_rfl) (fun _ _ _ h => h) (Or.inl ⟨by rfl, fun w _ => by go_simp⟩) (by assumption) ?_
  simp only [List.getElem_toArray, List.getElem_cons_zero, List.getElem_cons_succ, Act.put, List.setIfInBounds_toArray, List.set_cons_zero, List.set_cons_succ]
  refine wpAnyH_take (i := 15) (v := .int .u32 (n3 : Int)) rfl (by kernel_rfl) (by kernel_rfl) (by kernel_rfl) (fun _ _ _ h => h) (Or.inl ⟨by rfl, fun w _ => by go_simp⟩) (by assumption) ?_
  simp only [List.getElem_toArray, List.getElem_cons_zero, List.getElem_cons_succ, Act.put, List.setIfInBounds_toArray, List.set_cons_zero, List.set_cons_succ]
  refine wpAnyH_take (i := 16) (v := .slice A3 k3 c3) rfl (by kernel_rfl) (by kernel_rfl) (by kernel_rfl) (fun _ _ _ h => h) (Or.inl ⟨by rfl, fun w _ => by go_simp⟩) (by assumption) ?_
  simp only [List.getElem_toArray, List.getElem_cons_zero, List.getElem_cons_succ, Act.put, List.setIfInBounds_toArray, List.set_cons_zero, List.set_cons_succ]
  refine wpAnyH_take (i := 17) (v := .int .i64 (us3 : Int)) rfl (by kernel_rfl) (by kernel_rfl) (by kernel_rfl) (fun _ _ _ h => h) (Or.inl ⟨by rfl, fun w _ => by go_simp⟩) (by assumption) ?_
  simp only [List.getElem_toArray, List.getElem_cons_zero, List.getElem_cons_succ, Act.put, List.setIfInBounds_toArray, List.set_cons_zero, List.set_cons_succ]
  refine wpAnyH_take (i := 18) (v := .bool cl3) rfl (by kernel_rfl) (by kernel_rfl) (by kernel_rfl) (fun _ _ _ h => h) (Or.inl ⟨by rfl, fun w _ => by go_simp⟩) (by assumption) ?_
  simp only [List.getElem_toArray, List.getElem_cons_zero, List.getElem_cons_succ, Act.put, List.setIfInBounds_toArray, List.set_cons_zero, List.set_cons_succ]
  refine wpAnyH_done (by kernel_rfl) ?_ _
  go_wp2_with fail
  replace bw : Blk w2.drew gj 54 (rjC gf k A0 An Ac N false) := bw.drew
  have k03 := k02.drew
  have f3 := ((Keeps.refl [] w2).drew).rf f2 (by simp) (by simp)
  have hs3 : w.heap.size ≤ w2.drew.heap.size := hs2
  clear x0 x1 x2 x4 z2 f2 k02 hs2 hS8 hS9 hS0
  have x0 : w2.drew.cell? ⟨gj, 0, none⟩ = some (.pointer (some ⟨gf, 0, none⟩)) := bw.cell (j := 0) rfl
  have x1 : w2.drew.cell? ⟨gj, 1, none⟩ = some (.int .i64 (k : Int)) := bw.cell (j := 1) rfl
  have x2 : w2.drew.cell? ⟨gj, 2, none⟩ = some (.bool false) := bw.cell (j := 2) rfl
  have x4 : w2.drew.cell? ⟨gj, 4, none⟩ = some (.int .u32 (N : Int)) := bw.cell (j := 4) rfl
  have z2 := bw.frozen 2
  refine wp_region_held_drew (S := fun w' => w'.cell? ⟨gj, 0, none⟩ = some (.pointer (some ⟨gf, 0, none⟩)) ∧ w'.cell? ⟨gj, 1, none⟩ = some (.int .i64 (k : Int))) (by kernel_rfl) ⟨x0, x1⟩ (fun hS0 => ?_)
  generalize w2.drew = w3 at bw k03 f3 hs3 x0 x1 x2 x4 z2 hS0 ⊢
  refine wpAnyH_take (i := 0) (v := .pointer (some ⟨gj, 0, none⟩)) rfl (by kernel_rfl) (by kernel_rfl) (by kernel_rfl) (fun _ _ _ h => h) (Or.inl ⟨by rfl, fun w _ => by go_simp⟩) (by assumption) ?_
  simp only [List.getElem_toArray, List.getElem_cons_zero, Act.put, List.setIfInBounds_toArray, List.set_cons_zero, List.set_cons_succ]
  refine wpAnyH_take (i := 1) (v := .pointer (some ⟨gj, 0, none⟩)) rfl (by kernel_rfl) (by kernel_rfl) (by kernel_rfl) (fun _ _ _ h => h) (Or.inl ⟨by rfl, fun w _ => by go_simp⟩) (by assumption) ?_
  simp only [List.getElem_toArray, List.getElem_cons_zero, List.getElem_cons_succ, Act.put, List.setIfInBounds_toArray, List.set_cons_zero, List.set_cons_succ]
  refine wpAnyH_take (i := 2) (v := .pointer (some ⟨gj, 0, none⟩)) rfl (by kernel_rfl) (by kernel_rfl) (by kernel_rfl) (fun _ _ _ h => h) (Or.inl ⟨by rfl, fun w _ => by go_simp⟩) (by assumption) ?_
  simp only [List.getElem_toArray, List.getElem_cons_zero, List.getElem_cons_succ, Act.put, List.setIfInBounds_toArray, List.set_cons_zero, List.set_cons_succ]
  refine wpAnyH_take (i := 3) (v := .pointer (some ⟨gf, 0, none⟩)) rfl (by kernel_rfl) (by kernel_rfl) (by kernel_rfl) (fun _ _ _ h => h) (Or.inl ⟨by rfl, fun w h => by have h9 := h.1; go_simp⟩) (by assumption) ?_
  simp only [List.getElem_toArray, List.getElem_cons_zero, List.getElem_cons_succ, Act.put, List.setIfInBounds_toArray, List.set_cons_zero, List.set_cons_succ]
  refine wpAnyH_take (i := 4) (v := .pointer (some ⟨gj, 0, none⟩)) rfl (by kernel_rfl) (by kernel_rfl) (by kernel_rfl) (fun _ _ _ h => h) (Or.inl ⟨by rfl, fun w _ => by go_simp⟩) (by assumption) ?_
  simp only [List.getElem_toArray, List.getElem_cons_zero, List.getElem_cons_succ, Act.put, List.setIfInBounds_toArray, List.set_cons_zero, List.set_cons_succ]
  refine wpAnyH_take (i := 5) (v := .pointer (some ⟨gj, 0, none⟩)) rfl (by kernel_rfl) (by kernel_rfl) (by kernel_rfl) (fun _ _ _ h => h) (Or.inl ⟨by rfl, fun w _ => by go_simp⟩) (by assumption) ?_
  simp only [List.getElem_toArray, List.getElem_cons_zero, List.getElem_cons_succ, Act.put, List.setIfInBounds_toArray, List.set_cons_zero, List.set_cons_succ]
  refine wpAnyH_take (i := 6) (v := .pointer (some ⟨gj, 1, none⟩)) rfl (by kernel_rfl) (by kernel_rfl) (by kernel_rfl) (fun _ _ _ h => h) (Or.inl ⟨by rfl, fun w _ => by go_simp⟩) (by assumption) ?_
  simp only [List.getElem_toArray, List.getElem_cons_zero, List.getElem_cons_succ, Act.put, List.setIfInBounds_toArray, List.set_cons_zero, List.set_cons_succ]
  refine wpAnyH_take (i := 7) (v := .int .i64 (k : Int)) rfl (by kernel_rfl) (by kernel_rfl) (by kernel_rfl) (fun _ _ _ h => h) (Or.inl ⟨by rfl, fun w h => by have h9 := h.2; go_simp⟩) (by assumption) ?_
  simp only [List.getElem_toArray, List.getElem_cons_zero, List.getElem_cons_succ, Act.put, List.setIfInBounds_toArray, List.set_cons_zero, List.set_cons_succ]
  refine wpAnyH_take (i := 8) (v := .int .i64 ((k : Int) + 1)) rfl (by kernel_rfl) (by kernel_rfl) (by kernel_rfl) (fun _ _ _ h => h) (Or.inl ⟨by rfl, fun w _ => by go_simp⟩) (by assumption) ?_
  simp only [List.getElem_toArray, List.getElem_cons_zero, List.getElem_cons_succ, Act.put, List.setIfInBounds_toArray, List.set_cons_zero, List.set_cons_succ]
  refine wpAnyH_ready (rs := [9]) (by kernel_rfl) (by simp) ?_
  refine AllReadyH.cons rfl (fun K hKK => ?_) AllReadyH.nil
  go_simp
  refine (rwords_any gf hf (k + 1) s w3 f3 (by omega)).mono ?_
  rintro e wz ⟨A4, c4, rfl, r4, rfl⟩
  refine hKK.out _ _ (⟨x0, x1⟩) (fun hS9 => ?_)
  clear hKK
  refine wpAnyH_ready (rs := [10]) (by kernel_rfl) (by simp) ?_
  refine AllReadyH.cons rfl (fun K hKK => ?_) AllReadyH.nil
  go_simp
  refine (rWalk_let (hf + 1) A4 256 c4 (sect s.ws (k + 1)) w3 r4 (by omega) (by omega)).mono ?_
  rintro e w4 ⟨hb4, A5, k5, c5, n5, us5, cl5, rcd5, rfl, r5, HW5, hk5, hn5, hu5⟩
  have k4 : Keeps [] w3 w4 := Keeps.of_below hb4
  replace bw := k4.blk bw (by simp)
  have f4 := k4.rf f3 (by simp) (by simp)
  have k04 := k03.trans k4 (by simp)
  have hs4 := k04.size
  clear x0 x1 x2 x4 z2 r4 r5 f3 k03 k4 hb4
  have x0 : w4.cell? ⟨gj, 0, none⟩ = some (.pointer (some ⟨gf, 0, none⟩)) := bw.cell (j := 0) rfl
  have x1 : w4.cell? ⟨gj, 1, none⟩ = some (.int .i64 (k : Int)) := bw.cell (j := 1) rfl
  have x2 : w4.cell? ⟨gj, 2, none⟩ = some (.bool false) := bw.cell (j := 2) rfl
  have x4 : w4.cell? ⟨gj, 4, none⟩ = some (.int .u32 (N : Int)) := bw.cell (j := 4) rfl
  have z2 := bw.frozen 2
  refine hKK.out _ _ (⟨x0, x1⟩) (fun hS10 => ?_)
  clear hKK
  refine wpAnyH_take (i := 11) (v := .tuple #[.int .u32 (n5 : Int), .slice A5 k5 c5, .int .i64 (us5 : Int), .bool cl5]) rfl (by kernel_rfl) (by kernel_rfl) (by kernel_rfl) (fun _ _ _ h => h) (Or.inl ⟨by rfl, fun w _ => by go_simp⟩) (by assumption) ?_
  simp only [List.getElem_toArray, List.getElem_cons_zero, List.getElem_cons_succ, Act.put, List.setIfInBounds_toArray, List.set_cons_zero, List.set_cons_succ]
  refine wpAnyH_take (i := 12) (v := .int .u32 (n5 : Int)) rfl (by kernel_rfl) (by kernel_rfl) (by kernel_rfl) (fun _ _ _ h => h) (Or.inl ⟨by rfl, fun w _ => by go_simp⟩) (by assumption) ?_
  simp only [List.getElem_toArray, List.getElem_cons_zero, List.getElem_cons_succ, Act.put, List.setIfInBounds_toArray, List.set_cons_zero, List.set_cons_succ]
  refine wpAnyH_take (i := 13) (v := .slice A5 k5 c5) rfl (by kernel_rfl) (by kernel_rfl) (by kernel_rfl) (fun _ _ _ h => h) (Or.inl ⟨by rfl, fun w _ => by go_simp⟩) (by assumption) ?_
  simp only [List.getElem_toArray, List.getElem_cons_zero, List.getElem_cons_succ, Act.put, List.setIfInBounds_toArray, List.set_cons_zero, List.set_cons_succ]
  refine wpAnyH_take (i := 14) (v := .int .i64 (us5 : Int)) rfl (by kernel_rfl) (by kernel_rfl) (by kernel_rfl) (fun _ _ _ h => h) (Or.inl ⟨by rfl, fun w _ => by go_simp⟩) (by assumption) ?_
  simp only [List.getElem_toArray, List.getElem_cons_zero, List.getElem_cons_succ, Act.put, List.setIfInBounds_toArray, List.set_cons_zero, List.set_cons_succ]
  refine wpAnyH_take (i := 15) (v := .bool cl5) rfl (by kernel_rfl) (by kernel_rfl) (by kernel_rfl) (fun _ _ _ h => h) (Or.inl ⟨by rfl, fun w _ => by go_simp⟩) (by assumption) ?_
  simp only [List.getElem_toArray, List.getElem_cons_zero, List.getElem_cons_succ, Act.put, List.setIfInBounds_toArray, List.set_cons_zero, List.set_cons_succ]
  refine wpAnyH_take (i := 16) (v := .int .u32 (n5 : Int)) rfl (by kernel_rfl) (by kernel_rfl) (by kernel_rfl) (fun _ _ _ h => h) (Or.inl ⟨by rfl, fun w _ => by go_simp⟩) (by assumption) ?_
  simp only [List.getElem_toArray, List.getElem_cons_zero, List.getElem_cons_succ, Act.put, List.setIfInBounds_toArray, List.set_cons_zero, List.set_cons_succ]
  refine wpAnyH_take (i := 17) (v := .slice A5 k5 c5) rfl (by kernel_rfl) (by kernel_rfl) (by kernel_rfl) (fun _ _ _ h => h) (Or.inl ⟨by rfl, fun w _ => by go_simp⟩) (by assumption) ?_
  simp only [List.getElem_toArray, List.getElem_cons_zero, List.getElem_cons_succ, Act.put, List.setIfInBounds_toArray, List.set_cons_zero, List.set_cons_succ]
  refine wpAnyH_take (i := 18) (v := .int .i64 (us5 : Int)) rfl (by kernel_rfl) (by kernel_rfl) (by kernel_rfl) (fun _ _ _ h => h) (Or.inl ⟨by rfl, fun w _ => by go_simp⟩) (by assumption) ?_
  simp only [List.getElem_toArray, List.getElem_cons_zero, List.getElem_cons_succ, Act.put, List.setIfInBounds_toArray, List.set_cons_zero, List.set_cons_succ]
  refine wpAnyH_take (i := 19) (v := .bool cl5) rfl (by kernel_rfl) (by kernel_rfl) (by kernel_rfl) (fun _ _ _ h => h) (Or.inl ⟨by rfl, fun w _ => by go_simp⟩) (by assumption) ?_
  simp only [List.getElem_toArray, List.getElem_cons_zero, List.getElem_cons_succ, Act.put, List.setIfInBounds_toArray, List.set_cons_zero, List.set_cons_succ]
  refine wpAnyH_done (by kernel_rfl) ?_ _
  clear hS9 hS10 hS0
  have hmn : ¬ n3 < n5 := by have := HS.out; rw [HW3.out.1, HW5.out.1] at this; exact this
  have t3 : decide ((n3 : Int) < (n5 : Int)) = false := by simp; omega
  have HC := hide (cur_lo HW3.out.1 HW5.out.1 hmn)
  go_wp2_with fail
  refine (rwords_any gf hf k s w4 f4 (by omega)).mono ?_
  rintro e wz ⟨A6, c6, rfl, r6, rfl⟩
  go_wp2_with fail
  refine (rWalk_let (hf + 1) A6 256 c6 (sect s.ws k) w4 r6 (by omega) (by omega)).mono ?_
  rintro e w5 ⟨hb5, A7, k7, c7, n6, us, cl, rcd6, rfl, r7, HW6, hk7, hn6, hu6⟩
  have k5 : Keeps [] w4 w5 := Keeps.of_below hb5
  replace bw := k5.blk bw (by simp)
  have f5 := k5.rf f4 (by simp) (by simp)
  have k05 := k04.trans k5 (by simp)
  have hs5 := k05.size
  have HV := hide (cur_is HC.out.1 HW6.out.1 HW6.out.2)
  clear x0 x1 x2 x4 z2 r6 r7 f4 k04 k5 hb5 hs4
  have x0 : w5.cell? ⟨gj, 0, none⟩ = some (.pointer (some ⟨gf, 0, none⟩)) := bw.cell (j := 0) rfl
  have x1 : w5.cell? ⟨gj, 1, none⟩ = some (.int .i64 (k : Int)) := bw.cell (j := 1) rfl
  have x2 : w5.cell? ⟨gj, 2, none⟩ = some (.bool false) := bw.cell (j := 2) rfl
  have x4 : w5.cell? ⟨gj, 4, none⟩ = some (.int .u32 (N : Int)) := bw.cell (j := 4) rfl
  have z2 := bw.frozen 2
  have r5 : Row w5 w.heap.size A r.length c (cs32 r) := k05.rowAt HR.out.1 (Nat.le_refl _) (fun a e => by simp)
  have hus : us ≤ 256 := hu6
  go_wp2_with fail
  refine (rLaid_any w.heap.size A r.length c (N + 1) r w5 r5 (by omega) (by omega) (by omega)).mono ?_
  rintro e w6 ⟨AL, nL, cL, rfl, oL, hb6⟩
  have k6 : Keeps [] w5 w6 := Keeps.of_below hb6
  replace bw := k6.blk bw (by simp)
  have f6 := k6.rf f5 (by simp) (by simp)
  have k06 := k05.trans k6 (by simp)
  have hs6 := k06.size
  have hfl6 := f5.lt
  have hfl62 := f5.lt2
  have hoL : ∀ a, AL = some a → a.block ∉ [gf, hf] := by
    intro a e
    rcases own_addr oL with h9 | ⟨y, h9, h10, _⟩
    · rw [h9] at e; cases e
    · rw [h9] at e; cases e; simp; omega
  have HNL : Hid (nL = r.length + 4) := by have := own32_len oL; rw [laidW_len] at this; exact this.symm
  have hoL0 := own_base (base' := 0) (Nat.zero_le _) oL
  clear x0 x1 x2 x4 z2 f5 k05 k6 hb6 hs5 r5 oL
  have oL := hoL0
  clear hoL0
  have x0 : w6.cell? ⟨gj, 0, none⟩ = some (.pointer (some ⟨gf, 0, none⟩)) := bw.cell (j := 0) rfl
  have x1 : w6.cell? ⟨gj, 1, none⟩ = some (.int .i64 (k : Int)) := bw.cell (j := 1) rfl
  have x2 : w6.cell? ⟨gj, 2, none⟩ = some (.bool false) := bw.cell (j := 2) rfl
  have x4 : w6.cell? ⟨gj, 4, none⟩ = some (.int .u32 (N : Int)) := bw.cell (j := 4) rfl
  have z2 := bw.frozen 2
  by_cases hfit : fitB s.ws k r.length = true
  · have hfb := hfit
    unfold fitB at hfb
    rw [HV.out.2.2, HV.out.2.1, Bool.and_eq_true, decide_eq_true_eq] at hfb
    obtain ⟨hcl, hle⟩ := hfb
    subst hcl
    have d1 : decide ((256 : Int) - (us : Int) < (nL : Int)) = false := by have := HNL.out; simp; omega
    have HAPP : Hid (progsS s (256 * k + us + 0) ((laidW (N + 1) r).drop 0) = appS s k r ∧ progsE s (256 * k + us + 0) ((laidW (N + 1) r).drop 0) = appE s k r) := by
      unfold appS appE
      rw [if_pos hfit, if_pos hfit, HC.out.1, HV.out.2.1, ← HN.out]
      exact ⟨rfl, rfl⟩
    have HOPS : Hid (s.ops ≤ s.ops + 1 + 0) := by show _ ≤ _; omega
    have kl : Keeps [gj, gf, hf] w w6 := k06.more (by simp)
    have f1 := f6
    clear k06 f6 hs6 hfit hle
    go_wp2
    have kwl : Keeps [gf, hf] w6 w6 := Keeps.refl _ _
    have HLN := hide (And.intro oL (laidW_len (N + 1) r))
    have hsw := kl.size
    have HBW := hide bw
    have HKL := hide kl
    have HOL := hide (And.intro oL hoL)
    clear bw kl oL
    go_loopw [20] (fun i wr => ∃ (j : Nat) (sj : FS), j ≤ nL ∧ i = .int .i64 (j : Int) ∧ Rf wr gf hf sj ∧ Keeps [gf, hf] w6 wr ∧ Hid (progsS sj (256 * k + us + j) ((laidW (N + 1) r).drop j) = appS s k r ∧ progsE sj (256 * k + us + j) ((laidW (N + 1) r).drop j) = appE s k r) ∧ Hid (sj.ops ≤ s.ops + 1 + j)) (fun i _ => nL - (intOf i).toNat)
    case atStart => exact ⟨0, s, Nat.zero_le _, rfl, f1, kwl, hide HAPP.out, HOPS⟩
    case round =>
      clear f1 kwl
      obtain ⟨j, sj, hj2, rfl, fj, hkj, HE, HO⟩ := hrel
      generalize wr = w7 at *
      have hs7 := hkj.size
      by_cases hlt : j < nL
      · have hjL : j < (laidW (N + 1) r).length := by rw [laidW_len]; have := HNL.out; omega
        have hsj : ∀ a, AL = some a → a.block ∉ [gf, hf] := HOL.out.2
        obtain ⟨b, o, u, rfl, hbB, hu, hcell⟩ := (hkj.rowAt (Row.of_own HOL.out.1) (Nat.le_refl _) hsj).get hlt
        rw [cs32_at hjL] at hu
        obtain rfl := Option.some.inj hu
        clear hu
        have HBL := hide (hsj _ rfl)
        have hwl := (laidW (N + 1) r)[j].toNat_lt
        have HD := hide (drop_step (laidW (N + 1) r) j hjL)
        have HQ := hide (show (k : Int) * 256 + (us : Int) + (j : Int) = ((256 * k + us + j : Nat) : Int) by omega)
        have hi1 : (j : Int) < (nL : Int) := by omega
        have hj70 : j ≤ 70 := by have := HNL.out; omega
        have hm1 : IntKind.i64.wrap ((k : Int) * 256) = (k : Int) * 256 := wrap64_small (by omega) (by omega)
        have hm2 : IntKind.i64.wrap ((k : Int) * 256 + (us : Int)) = (k : Int) * 256 + (us : Int) := wrap64_small (by omega) (by omega)
        have hm3 : IntKind.i64.wrap ((k : Int) * 256 + (us : Int) + (j : Int)) = (k : Int) * 256 + (us : Int) + (j : Int) := wrap64_small (by omega) (by omega)
        have bj0 := hkj.blk HBW.out (by simp; exact ⟨h1, h2⟩)
        have hcw := hcell
        by_cases hp0 : proE sj ((256 * k + us + j : Nat) : Int) = 0
        · have H0 := hide hp0
          clear hp0
          go_wp2_with fail
          have x0 : w7.drew.cell? ⟨gj, 0, none⟩ = some (.pointer (some ⟨gf, 0, none⟩)) := bj0.cell (j := 0) rfl
          replace hcell : w7.drew.cell? ⟨b, o + j, none⟩ = some (.int .u32 ((laidW (N + 1) r)[j].toNat : Int)) := hcell
          replace fj := ((Keeps.refl [] w7).drew).rf fj (by simp) (by simp)
          have bj : Blk w7.drew gj 54 (rjC gf k A0 An Ac N false) := bj0.drew
          have kj := hkj.drew
          have hb8 : b < w7.drew.heap.size := by show b < w7.heap.size; omega
          refine wp_region_held_drew (S := fun w' => w'.cell? ⟨gj, 0, none⟩ = some (.pointer (some ⟨gf, 0, none⟩)) ∧ w'.cell? ⟨b, o + j, none⟩ = some (.int .u32 ((laidW (N + 1) r)[j].toNat : Int))) (by kernel_rfl) ⟨x0, hcell⟩ (fun hS0 => ?_)
          clear hcw bj0 hkj
          generalize w7.drew = w8 at *
          refine wpAnyH_take (i := 0) (v := .pointer (some ⟨gj, 0, none⟩)) rfl (by kernel_rfl) (by kernel_rfl) (by kernel_rfl) (fun _ _ _ h => h) (Or.inl ⟨by rfl, fun w _ => by go_simp⟩) (by assumption) ?_
          simp only [List.getElem_toArray, List.getElem_cons_zero, Act.put, List.setIfInBounds_toArray, List.set_cons_zero, List.set_cons_succ]
          refine wpAnyH_take (i := 1) (v := .pointer (some ⟨gj, 0, none⟩)) rfl (by kernel_rfl) (by kernel_rfl) (by kernel_rfl) (fun _ _ _ h => h) (Or.inl ⟨by rfl, fun w _ => by go_simp⟩) (by assumption) ?_
          simp only [List.getElem_toArray, List.getElem_cons_zero, List.getElem_cons_succ, Act.put, List.setIfInBounds_toArray, List.set_cons_zero, List.set_cons_succ]
          refine wpAnyH_take (i := 2) (v := .pointer (some ⟨gj, 0, none⟩)) rfl (by kernel_rfl) (by kernel_rfl) (by kernel_rfl) (fun _ _ _ h => h) (Or.inl ⟨by rfl, fun w _ => by go_simp⟩) (by assumption) ?_
          simp only [List.getElem_toArray, List.getElem_cons_zero, List.getElem_cons_succ, Act.put, List.setIfInBounds_toArray, List.set_cons_zero, List.set_cons_succ]
          refine wpAnyH_take (i := 3) (v := .pointer (some ⟨gf, 0, none⟩)) rfl (by kernel_rfl) (by kernel_rfl) (by kernel_rfl) (fun _ _ _ h => h) (Or.inl ⟨by rfl, fun w h => by have h9 := h.1; go_simp⟩) (by assumption) ?_
          simp only [List.getElem_toArray, List.getElem_cons_zero, List.getElem_cons_succ, Act.put, List.setIfInBounds_toArray, List.set_cons_zero, List.set_cons_succ]
          refine wpAnyH_take (i := 4) (v := .int .i64 ((k : Int))) rfl (by kernel_rfl) (by kernel_rfl) (by kernel_rfl) (fun _ _ _ h => h) (Or.inl ⟨by rfl, fun w _ => by go_simp⟩) (by assumption) ?_
          simp only [List.getElem_toArray, List.getElem_cons_zero, List.getElem_cons_succ, Act.put, List.setIfInBounds_toArray, List.set_cons_zero, List.set_cons_succ]
          refine wpAnyH_take (i := 5) (v := .int .i64 ((k : Int) * 256)) rfl (by kernel_rfl) (by kernel_rfl) (by kernel_rfl) (fun _ _ _ h => h) (Or.inl ⟨by rfl, fun w _ => by go_simp⟩) (by assumption) ?_
          simp only [List.getElem_toArray, List.getElem_cons_zero, List.getElem_cons_succ, Act.put, List.setIfInBounds_toArray, List.set_cons_zero, List.set_cons_succ]
          refine wpAnyH_take (i := 6) (v := .int .i64 ((us : Int))) rfl (by kernel_rfl) (by kernel_rfl) (by kernel_rfl) (fun _ _ _ h => h) (Or.inl ⟨by rfl, fun w _ => by go_simp⟩) (by assumption) ?_
          simp only [List.getElem_toArray, List.getElem_cons_zero, List.getElem_cons_succ, Act.put, List.setIfInBounds_toArray, List.set_cons_zero, List.set_cons_succ]
          refine wpAnyH_take (i := 7) (v := .int .i64 ((k : Int) * 256 + (us : Int))) rfl (by kernel_rfl) (by kernel_rfl) (by kernel_rfl) (fun _ _ _ h => h) (Or.inl ⟨by rfl, fun w _ => by go_simp⟩) (by assumption) ?_
          simp only [List.getElem_toArray, List.getElem_cons_zero, List.getElem_cons_succ, Act.put, List.setIfInBounds_toArray, List.set_cons_zero, List.set_cons_succ]
          refine wpAnyH_take (i := 8) (v := .int .i64 (j : Int)) rfl (by kernel_rfl) (by kernel_rfl) (by kernel_rfl) (fun _ _ _ h => h) (Or.inl ⟨by rfl, fun w _ => by go_simp⟩) (by assumption) ?_
          simp only [List.getElem_toArray, List.getElem_cons_zero, List.getElem_cons_succ, Act.put, List.setIfInBounds_toArray, List.set_cons_zero, List.set_cons_succ]
          refine wpAnyH_take (i := 9) (v := .int .i64 ((k : Int) * 256 + (us : Int) + (j : Int))) rfl (by kernel_rfl) (by kernel_rfl) (by kernel_rfl) (fun _ _ _ h => h) (Or.inl ⟨by rfl, fun w _ => by go_simp⟩) (by assumption) ?_
          simp only [List.getElem_toArray, List.getElem_cons_zero, List.getElem_cons_succ, Act.put, List.setIfInBounds_toArray, List.set_cons_zero, List.set_cons_succ]
          refine wpAnyH_take (i := 10) (v := .slice (some ⟨b, o, none⟩) nL cL) rfl (by kernel_rfl) (by kernel_rfl) (by kernel_rfl) (fun _ _ _ h => h) (Or.inl ⟨by rfl, fun w _ => by go_simp⟩) (by assumption) ?_
          simp only [List.getElem_toArray, List.getElem_cons_zero, List.getElem_cons_succ, Act.put, List.setIfInBounds_toArray, List.set_cons_zero, List.set_cons_succ]
          refine wpAnyH_take (i := 11) (v := .int .i64 (j : Int)) rfl (by kernel_rfl) (by kernel_rfl) (by kernel_rfl) (fun _ _ _ h => h) (Or.inl ⟨by rfl, fun w _ => by go_simp⟩) (by assumption) ?_
          simp only [List.getElem_toArray, List.getElem_cons_zero, List.getElem_cons_succ, Act.put, List.setIfInBounds_toArray, List.set_cons_zero, List.set_cons_succ]
          refine wpAnyH_take (i := 12) (v := .pointer (some ⟨b, o + j, none⟩)) rfl (by kernel_rfl) (by kernel_rfl) (by kernel_rfl) (fun _ _ _ h => h) (Or.inl ⟨by rfl, fun w _ => by go_simp⟩) (by assumption) ?_
          simp only [List.getElem_toArray, List.getElem_cons_zero, List.getElem_cons_succ, Act.put, List.setIfInBounds_toArray, List.set_cons_zero, List.set_cons_succ]
          refine wpAnyH_take (i := 13) (v := .int .u32 ((laidW (N + 1) r)[j].toNat : Int)) rfl (by kernel_rfl) (by kernel_rfl) (by kernel_rfl) (fun _ _ _ h => h) (Or.inl ⟨by rfl, fun w h => by have h9 := h.2; go_simp⟩) (by assumption) ?_
          simp only [List.getElem_toArray, List.getElem_cons_zero, List.getElem_cons_succ, Act.put, List.setIfInBounds_toArray, List.set_cons_zero, List.set_cons_succ]
          refine wpAnyH_ready (rs := [14]) (by kernel_rfl) (by simp) ?_
          refine AllReadyH.cons rfl (fun K hKK => ?_) AllReadyH.nil
          go_simp
          refine (rProgram_any gf hf sj _ (laidW (N + 1) r)[j] _ fj (by have := HO.out; omega)).mono ?_
          rintro e w9 ⟨rfl, f9, k9⟩
          rw [HQ.out] at f9
          rw [HQ.out, H0.out]
          have y0 : w9.cell? ⟨gj, 0, none⟩ = some (.pointer (some ⟨gf, 0, none⟩)) := (k9.blk bj (by simp; exact ⟨h1, h2⟩)).cell (j := 0) rfl
          have y13 : w9.cell? ⟨b, o + j, none⟩ = some (.int .u32 ((laidW (N + 1) r)[j].toNat : Int)) := (World.cell?_of_block (w := w8) (a := ⟨b, o + j, none⟩) (k9.block b (by omega) HBL.out)).trans hcell
          refine hKK.out _ _ (⟨y0, y13⟩) (fun hS14 => ?_)
          clear hKK
          refine wpAnyH_take (i := 15) (v := .bool false) rfl (by kernel_rfl) (by kernel_rfl) (by kernel_rfl) (fun _ _ _ h => h) (Or.inl ⟨by rfl, fun w _ => by go_simp⟩) (by assumption) ?_
          simp only [List.getElem_toArray, List.getElem_cons_zero, List.getElem_cons_succ, Act.put, List.setIfInBounds_toArray, List.set_cons_zero, List.set_cons_succ]
          refine wpAnyH_done (by kernel_rfl) ?_ _
          go_wp2
          go_roundw
          case rel =>
            refine ⟨j + 1, _, by omega, by go_num, f9, kj.trans k9 (by simp), ?_, ?_⟩
            · have h8 := HE.out
              rw [HD.out, progsS, progsE, if_pos H0.out, if_pos H0.out] at h8
              exact h8
            · show _ ≤ _
              exact Nat.le_trans (proS_ops _ _ _) (by have := HO.out; omega)
          case measure => simp [intOf]; omega
        · have H0 := hide hp0
          have d0 : (proE sj ((256 * k + us + j : Nat) : Int) != 0) = true := by rw [bne_iff_ne]; exact hp0
          obtain ⟨q, hq⟩ : ∃ q, q = proE sj ((256 * k + us + j : Nat) : Int) := ⟨_, rfl⟩
          rw [← hq] at d0
          have HP := hide hq
          clear hp0 hq
          go_wp2_with fail
          have x0 : w7.drew.cell? ⟨gj, 0, none⟩ = some (.pointer (some ⟨gf, 0, none⟩)) := bj0.cell (j := 0) rfl
          replace hcell : w7.drew.cell? ⟨b, o + j, none⟩ = some (.int .u32 ((laidW (N + 1) r)[j].toNat : Int)) := hcell
          replace fj := ((Keeps.refl [] w7).drew).rf fj (by simp) (by simp)
          have bj : Blk w7.drew gj 54 (rjC gf k A0 An Ac N false) := bj0.drew
          have kj := hkj.drew
          have hb8 : b < w7.drew.heap.size := by show b < w7.heap.size; omega
          refine wp_region_held_drew (S := fun w' => w'.cell? ⟨gj, 0, none⟩ = some (.pointer (some ⟨gf, 0, none⟩)) ∧ w'.cell? ⟨b, o + j, none⟩ = some (.int .u32 ((laidW (N + 1) r)[j].toNat : Int))) (by kernel_rfl) ⟨x0, hcell⟩ (fun hS0 => ?_)
          clear hcw bj0 hkj
          generalize w7.drew = w8 at *
          refine wpAnyH_take (i := 0) (v := .pointer (some ⟨gj, 0, none⟩)) rfl (by kernel_rfl) (by kernel_rfl) (by kernel_rfl) (fun _ _ _ h => h) (Or.inl ⟨by rfl, fun w _ => by go_simp⟩) (by assumption) ?_
          simp only [List.getElem_toArray, List.getElem_cons_zero, Act.put, List.setIfInBounds_toArray, List.set_cons_zero, List.set_cons_succ]
          refine wpAnyH_take (i := 1) (v := .pointer (some ⟨gj, 0, none⟩)) rfl (by kernel_rfl) (by kernel_rfl) (by kernel_rfl) (fun _ _ _ h => h) (Or.inl ⟨by rfl, fun w _ => by go_simp⟩) (by assumption) ?_
          simp only [List.getElem_toArray, List.getElem_cons_zero, List.getElem_cons_succ, Act.put, List.setIfInBounds_toArray, List.set_cons_zero, List.set_cons_succ]
          refine wpAnyH_take (i := 2) (v := .pointer (some ⟨gj, 0, none⟩)) rfl (by kernel_rfl) (by kernel_rfl) (by kernel_rfl) (fun _ _ _ h => h) (Or.inl ⟨by rfl, fun w _ => by go_simp⟩) (by assumption) ?_
          simp only [List.getElem_toArray, List.getElem_cons_zero, List.getElem_cons_succ, Act.put, List.setIfInBounds_toArray, List.set_cons_zero, List.set_cons_succ]
          refine wpAnyH_take (i := 3) (v := .pointer (some ⟨gf, 0, none⟩)) rfl (by kernel_rfl) (by kernel_rfl) (by kernel_rfl) (fun _ _ _ h => h) (Or.inl ⟨by rfl, fun w h => by have h9 := h.1; go_simp⟩) (by assumption) ?_
          simp only [List.getElem_toArray, List.getElem_cons_zero, List.getElem_cons_succ, Act.put, List.setIfInBounds_toArray, List.set_cons_zero, List.set_cons_succ]
          refine wpAnyH_take (i := 4) (v := .int .i64 ((k : Int))) rfl (by kernel_rfl) (by kernel_rfl) (by kernel_rfl) (fun _ _ _ h => h) (Or.inl ⟨by rfl, fun w _ => by go_simp⟩) (by assumption) ?_
          simp only [List.getElem_toArray, List.getElem_cons_zero, List.getElem_cons_succ, Act.put, List.setIfInBounds_toArray, List.set_cons_zero, List.set_cons_succ]
          refine wpAnyH_take (i := 5) (v := .int .i64 ((k : Int) * 256)) rfl (by kernel_rfl) (by kernel_rfl) (by kernel_rfl) (fun _ _ _ h => h) (Or.inl ⟨by rfl, fun w _ => by go_simp⟩) (by assumption) ?_
          simp only [List.getElem_toArray, List.getElem_cons_zero, List.getElem_cons_succ, Act.put, List.setIfInBounds_toArray, List.set_cons_zero, List.set_cons_succ]
          refine wpAnyH_take (i := 6) (v := .int .i64 ((us : Int))) rfl (by kernel_rfl) (by kernel_rfl) (by kernel_rfl) (fun _ _ _ h => h) (Or.inl ⟨by rfl, fun w _ => by go_simp⟩) (by assumption) ?_
          simp only [List.getElem_toArray, List.getElem_cons_zero, List.getElem_cons_succ, Act.put, List.setIfInBounds_toArray, List.set_cons_zero, List.set_cons_succ]
          refine wpAnyH_take (i := 7) (v := .int .i64 ((k : Int) * 256 + (us : Int))) rfl (by kernel_rfl) (by kernel_rfl) (by kernel_rfl) (fun _ _ _ h => h) (Or.inl ⟨by rfl, fun w _ => by go_simp⟩) (by assumption) ?_
          simp only [List.getElem_toArray, List.getElem_cons_zero, List.getElem_cons_succ, Act.put, List.setIfInBounds_toArray, List.set_cons_zero, List.set_cons_succ]
          refine wpAnyH_take (i := 8) (v := .int .i64 (j : Int)) rfl (by kernel_rfl) (by kernel_rfl) (by kernel_rfl) (fun _ _ _ h => h) (Or.inl ⟨by rfl, fun w _ => by go_simp⟩) (by assumption) ?_
          simp only [List.getElem_toArray, List.getElem_cons_zero, List.getElem_cons_succ, Act.put, List.setIfInBounds_toArray, List.set_cons_zero, List.set_cons_succ]
          refine wpAnyH_take (i := 9) (v := .int .i64 ((k : Int) * 256 + (us : Int) + (j : Int))) rfl (by kernel_rfl) (by kernel_rfl) (by kernel_rfl) (fun _ _ _ h => h) (Or.inl ⟨by rfl, fun w _ => by go_simp⟩) (by assumption) ?_
          simp only [List.getElem_toArray, List.getElem_cons_zero, List.getElem_cons_succ, Act.put, List.setIfInBounds_toArray, List.set_cons_zero, List.set_cons_succ]
          refine wpAnyH_take (i := 10) (v := .slice (some ⟨b, o, none⟩) nL cL) rfl (by kernel_rfl) (by kernel_rfl) (by kernel_rfl) (fun _ _ _ h => h) (Or.inl ⟨by rfl, fun w _ => by go_simp⟩) (by assumption) ?_
          simp only [List.getElem_toArray, List.getElem_cons_zero, List.getElem_cons_succ, Act.put, List.setIfInBounds_toArray, List.set_cons_zero, List.set_cons_succ]
          refine wpAnyH_take (i := 11) (v := .int .i64 (j : Int)) rfl (by kernel_rfl) (by kernel_rfl) (by kernel_rfl) (fun _ _ _ h => h) (Or.inl ⟨by rfl, fun w _ => by go_simp⟩) (by assumption) ?_
          simp only [List.getElem_toArray, List.getElem_cons_zero, List.getElem_cons_succ, Act.put, List.setIfInBounds_toArray, List.set_cons_zero, List.set_cons_succ]
          refine wpAnyH_take (i := 12) (v := .pointer (some ⟨b, o + j, none⟩)) rfl (by kernel_rfl) (by kernel_rfl) (by kernel_rfl) (fun _ _ _ h => h) (Or.inl ⟨by rfl, fun w _ => by go_simp⟩) (by assumption) ?_
          simp only [List.getElem_toArray, List.getElem_cons_zero, List.getElem_cons_succ, Act.put, List.setIfInBounds_toArray, List.set_cons_zero, List.set_cons_succ]
          refine wpAnyH_take (i := 13) (v := .int .u32 ((laidW (N + 1) r)[j].toNat : Int)) rfl (by kernel_rfl) (by kernel_rfl) (by kernel_rfl) (fun _ _ _ h => h) (Or.inl ⟨by rfl, fun w h => by have h9 := h.2; go_simp⟩) (by assumption) ?_
          simp only [List.getElem_toArray, List.getElem_cons_zero, List.getElem_cons_succ, Act.put, List.setIfInBounds_toArray, List.set_cons_zero, List.set_cons_succ]
          refine wpAnyH_ready (rs := [14]) (by kernel_rfl) (by simp) ?_
          refine AllReadyH.cons rfl (fun K hKK => ?_) AllReadyH.nil
          go_simp
          refine (rProgram_any gf hf sj _ (laidW (N + 1) r)[j] _ fj (by have := HO.out; omega)).mono ?_
          rintro e w9 ⟨rfl, f9, k9⟩
          rw [HQ.out] at f9
          rw [HQ.out, ← HP.out]
          have y0 : w9.cell? ⟨gj, 0, none⟩ = some (.pointer (some ⟨gf, 0, none⟩)) := (k9.blk bj (by simp; exact ⟨h1, h2⟩)).cell (j := 0) rfl
          have y13 : w9.cell? ⟨b, o + j, none⟩ = some (.int .u32 ((laidW (N + 1) r)[j].toNat : Int)) := (World.cell?_of_block (w := w8) (a := ⟨b, o + j, none⟩) (k9.block b (by omega) HBL.out)).trans hcell
          refine hKK.out _ _ (⟨y0, y13⟩) (fun hS14 => ?_)
          clear hKK
          refine wpAnyH_take (i := 15) (v := .bool true) rfl (by kernel_rfl) (by kernel_rfl) (by kernel_rfl) (fun _ _ _ h => h) (Or.inl ⟨by rfl, fun w _ => by go_simp⟩) (by assumption) ?_
          simp only [List.getElem_toArray, List.getElem_cons_zero, List.getElem_cons_succ, Act.put, List.setIfInBounds_toArray, List.set_cons_zero, List.set_cons_succ]
          refine wpAnyH_done (by kernel_rfl) ?_ _
          have b9 := k9.blk bj (by simp; exact ⟨h1, h2⟩)
          have u2 : w9.cell? ⟨gj, 2, none⟩ = some (.bool false) := b9.cell (j := 2) rfl
          have v2 := b9.frozen 2
          go_wp2
          go_ret
          have h8 := HE.out
          rw [HD.out, progsS, progsE, if_neg H0.out, if_neg H0.out] at h8
          have he7 : appE s k r = 7 := by
            rcases HSP.out.2.2 with h | h
            · exact absurd (h8.2.trans h.1) H0.out
            · exact h.1
          have k10 : Keeps [gj] w9 (w9.setCell ⟨gj, 2, none⟩ (.bool true)) := (Keeps.refl _ _).set (.inl (by simp)) _
          exact ⟨by rw [he7]; rfl, by rw [← h8.1]; exact k10.rf f9 (by simp; exact fun e => h1 e.symm) (by simp; exact fun e => h2 e.symm), ((HKL.out.trans (kj.trans k9 (by simp)) (by simp)).trans k10 (by simp)), .inr ⟨he7, b9.set 2 _⟩⟩
      · obtain rfl : nL = j := by omega
        have h8 := HE.out
        rw [List.drop_eq_nil_of_le (by rw [laidW_len]; have := HNL.out; omega), progsS, progsE] at h8
        have b9 := hkj.blk HBW.out (by simp; exact ⟨h1, h2⟩)
        have k9 := HKL.out.trans hkj (by simp)
        have hs9 := k9.size
        have u4 : w7.cell? ⟨gj, 4, none⟩ = some (.int .u32 (N : Int)) := b9.cell (j := 4) rfl
        have u3 : w7.cell? ⟨gj, 3, none⟩ = some (.slice A0 An Ac) := b9.cell (j := 3) rfl
        have v4 := b9.frozen 4
        have v3 := b9.frozen 3
        obtain ⟨w10, hw10⟩ : ∃ w10, w10 = (w7.setCell ⟨gj, 4, none⟩ (.int .u32 ((N : Int) + 1))).setCell ⟨gj, 3, none⟩ (.slice none 0 0) := ⟨_, rfl⟩
        have b10 : Blk w10 gj 54 (rjC gf k none 0 0 (N + 1) false) := by rw [hw10]; exact (b9.set 4 _).set 3 _
        have k10 : Keeps [gj] w7 w10 := by rw [hw10]; exact ((Keeps.refl _ _).set (.inl (by simp)) _).set (.inl (by simp)) _
        have hs10 : w10.heap.size = w7.heap.size := by rw [hw10]; simp [World.setCell]
        have k010 := k9.trans k10 (by simp)
        have rr : Row w10 w.heap.size A r.length c (cs32 r) := k010.rowAt HR.out.1 (Nat.le_refl _) HR.out.2
        have f10 := k10.rf fj (by simp; exact fun e => h1 e.symm) (by simp; exact fun e => h2 e.symm)
        have HF := hide (And.intro b10 (And.intro k010 (And.intro rr f10)))
        have HW10 := hide hw10
        have h8' := hide h8
        have y3 : ((w7.setCell ⟨gj, 4, none⟩ (.int .u32 ((N : Int) + 1))).setCell ⟨gj, 3, none⟩ (.slice none 0 0)).cell? ⟨gj, 3, none⟩ = some (.slice none 0 0) := by rw [← hw10]; exact b10.cell (j := 3) rfl
        clear b10 k10 k010 rr f10 hw10 h8 b9 k9 fj hkj
        go_wp2_with (at_builtin; rw [← HW10.out]; refine wpList_append_row rfl (.tmp 183) (.tmp 184) 36 rfl w10.heap.size 37 i0 _ 4 Try.underlying36 hi hz0 hz1 hz2 rfl _ _ _ rfl (World.ownsRow_nil _ _ _ _) _ _ _ _ _ rfl HF.out.2.2.1 (cs32_one _) (by unfold maxLen; omega) (by omega) w10 (Below.refl _ _) (Nat.le_refl _) ?_; intro A6 c6 w11 ho11 hb11 hg11; simp only [Nat.zero_add, List.nil_append] at ho11 ⊢; have k11 := Keeps.of_below (S := []) hb11; have b11 := k11.blk HF.out.1 (by simp); have y113 : w11.cell? ⟨gj, 3, none⟩ = some (.slice none 0 0) := b11.cell (j := 3) rfl; have z113 := b11.frozen 3; have hs11 := hb11.size; have H11 := hide (And.intro ho11 (And.intro b11 k11)); clear b11 k11 ho11 hb11 hg11)
        go_ret
        have kf : Keeps [gj] w11 (w11.setCell ⟨gj, 3, none⟩ (.slice A6 r.length c6)) := (Keeps.refl _ _).set (.inl (by simp)) _
        have f11 := kf.rf (H11.out.2.2.rf HF.out.2.2.2 (by simp) (by simp)) (by simp; exact fun e => h1 e.symm) (by simp; exact fun e => h2 e.symm)
        refine ⟨by rw [← h8'.out.2]; rfl, by rw [← h8'.out.1]; exact f11, ((HF.out.2.1.trans H11.out.2.2 (by simp)).trans kf (by simp)), .inl ⟨h8'.out.2.symm, A6, c6, H11.out.2.1.set 3 _, ?_⟩⟩
        refine own_base (base := w10.heap.size) (by omega) (kf.own H11.out.1 (fun x e => ?_))
        rcases own_addr H11.out.1 with h9 | ⟨y, h9, h10, _⟩
        · rw [h9] at e; cases e
        · rw [h9] at e; cases e; simp; omega
  · have hff : fitB s.ws k r.length = false := by simpa using hfit
    have key : cl = false ∨ (cl = true ∧ decide ((256 : Int) - (us : Int) < (nL : Int)) = true) := by
      unfold fitB at hff
      rw [HV.out.2.2, HV.out.2.1] at hff
      rcases hq : cl with _ | _
      · exact .inl rfl
      · right; rw [hq] at hff; simp at hff; exact ⟨rfl, by have := HNL.out; simp; omega⟩
    obtain ⟨q, hq⟩ : ∃ q, q = eraE s ((k + 1) : Nat) := ⟨_, rfl⟩
    obtain ⟨s1, hs1⟩ : ∃ s1, s1 = eraS s ((k + 1) : Nat) := ⟨_, rfl⟩
    have HQE := hide (And.intro hq hs1)
    have hops1 : s1.ops ≤ s.ops + 1 := by rw [hs1]; exact eraS_ops _ _
    by_cases hq0 : q = 0
    · subst hq0
      have HAPP : Hid (progsS s1 (256 * (k + 1) + 0) ((laidW (N + 1) r).drop 0) = appS s k r ∧ progsE s1 (256 * (k + 1) + 0) ((laidW (N + 1) r).drop 0) = appE s k r) := by
        unfold appS appE
        rw [if_neg hfit, if_neg hfit, HC.out.2, if_pos hq.symm, if_pos hq.symm, ← HN.out, hs1]
        exact ⟨rfl, rfl⟩
      have HOPS : Hid (s1.ops ≤ s.ops + 1 + 0) := by show _ ≤ _; omega
      clear hq hs1 hfit hff
      rcases key with hc | ⟨hc, hd9⟩
      all_goals
        subst hc
        go_wp2_with (go_at_call 32; refine (rErase_any gf hf s _ w6 f6 (by omega)).mono ?_; rintro e w61 ⟨rfl, f1, ke⟩; rw [show eraE s (((k : Int) + 1)) = 0 from HQE.out.1.symm]; rw [show eraS s (((k : Int) + 1)) = s1 from HQE.out.2.symm] at f1)
        replace bw := ke.blk bw (by simp; exact ⟨h1, h2⟩)
        have kl : Keeps [gj, gf, hf] w w61 := (k06.more (by simp)).trans ke (by simp)
        replace oL := ke.own oL (fun g e => hoL _ e)
        clear k06 f6 hs6 x0 x1 x2 x4 z2 ke
        go_wp2
        have kwl : Keeps [gf, hf] w61 w61 := Keeps.refl _ _
        have HLN := hide (And.intro oL (laidW_len (N + 1) r))
        have hsw := kl.size
        have HBW := hide bw
        have HKL := hide kl
        have HOL := hide (And.intro oL hoL)
        clear bw kl oL
        go_loopw [20] (fun i wr => ∃ (j : Nat) (sj : FS), j ≤ nL ∧ i = .int .i64 (j : Int) ∧ Rf wr gf hf sj ∧ Keeps [gf, hf] w61 wr ∧ Hid (progsS sj (256 * (k + 1) + j) ((laidW (N + 1) r).drop j) = appS s k r ∧ progsE sj (256 * (k + 1) + j) ((laidW (N + 1) r).drop j) = appE s k r) ∧ Hid (sj.ops ≤ s.ops + 1 + j)) (fun i _ => nL - (intOf i).toNat)
        case atStart => exact ⟨0, s1, Nat.zero_le _, rfl, f1, kwl, hide HAPP.out, HOPS⟩
        case round =>
          clear f1 kwl
          obtain ⟨j, sj, hj2, rfl, fj, hkj, HE, HO⟩ := hrel
          generalize wr = w7 at *
          have hs7 := hkj.size
          by_cases hlt : j < nL
          · have hjL : j < (laidW (N + 1) r).length := by rw [laidW_len]; have := HNL.out; omega
            have hsj : ∀ a, AL = some a → a.block ∉ [gf, hf] := HOL.out.2
            obtain ⟨b, o, u, rfl, hbB, hu, hcell⟩ := (hkj.rowAt (Row.of_own HOL.out.1) (Nat.le_refl _) hsj).get hlt
            rw [cs32_at hjL] at hu
            obtain rfl := Option.some.inj hu
            clear hu
            have HBL := hide (hsj _ rfl)
            have hwl := (laidW (N + 1) r)[j].toNat_lt
            have HD := hide (drop_step (laidW (N + 1) r) j hjL)
            have HQ := hide (show ((k : Int) + 1) * 256 + (j : Int) = ((256 * (k + 1) + j : Nat) : Int) by omega)
            have hi1 : (j : Int) < (nL : Int) := by omega
            have hj70 : j ≤ 70 := by have := HNL.out; omega
            have hm1 : IntKind.i64.wrap (((k : Int) + 1) * 256) = ((k : Int) + 1) * 256 := wrap64_small (by omega) (by omega)
            skip
            have hm3 : IntKind.i64.wrap (((k : Int) + 1) * 256 + (j : Int)) = ((k : Int) + 1) * 256 + (j : Int) := wrap64_small (by omega) (by omega)
            have bj0 := hkj.blk HBW.out (by simp; exact ⟨h1, h2⟩)
            have hcw := hcell
            by_cases hp0 : proE sj ((256 * (k + 1) + j : Nat) : Int) = 0
            · have H0 := hide hp0
              clear hp0
              go_wp2_with fail
              have x0 : w7.drew.cell? ⟨gj, 0, none⟩ = some (.pointer (some ⟨gf, 0, none⟩)) := bj0.cell (j := 0) rfl
              replace hcell : w7.drew.cell? ⟨b, o + j, none⟩ = some (.int .u32 ((laidW (N + 1) r)[j].toNat : Int)) := hcell
              replace fj := ((Keeps.refl [] w7).drew).rf fj (by simp) (by simp)
              have bj : Blk w7.drew gj 54 (rjC gf k A0 An Ac N false) := bj0.drew
              have kj := hkj.drew
              have hb8 : b < w7.drew.heap.size := by show b < w7.heap.size; omega
              refine wp_region_held_drew (S := fun w' => w'.cell? ⟨gj, 0, none⟩ = some (.pointer (some ⟨gf, 0, none⟩)) ∧ w'.cell? ⟨b, o + j, none⟩ = some (.int .u32 ((laidW (N + 1) r)[j].toNat : Int))) (by kernel_rfl) ⟨x0, hcell⟩ (fun hS0 => ?_)
              clear hcw bj0 hkj
              generalize w7.drew = w8 at *
              refine wpAnyH_take (i := 0) (v := .pointer (some ⟨gj, 0, none⟩)) rfl (by kernel_rfl) (by kernel_rfl) (by kernel_rfl) (fun _ _ _ h => h) (Or.inl ⟨by rfl, fun w _ => by go_simp⟩) (by assumption) ?_
              simp only [List.getElem_toArray, List.getElem_cons_zero, Act.put, List.setIfInBounds_toArray, List.set_cons_zero, List.set_cons_succ]
              refine wpAnyH_take (i := 1) (v := .pointer (some ⟨gj, 0, none⟩)) rfl (by kernel_rfl) (by kernel_rfl) (by kernel_rfl) (fun _ _ _ h => h) (Or.inl ⟨by rfl, fun w _ => by go_simp⟩) (by assumption) ?_
              simp only [List.getElem_toArray, List.getElem_cons_zero, List.getElem_cons_succ, Act.put, List.setIfInBounds_toArray, List.set_cons_zero, List.set_cons_succ]
              refine wpAnyH_take (i := 2) (v := .pointer (some ⟨gj, 0, none⟩)) rfl (by kernel_rfl) (by kernel_rfl) (by kernel_rfl) (fun _ _ _ h => h) (Or.inl ⟨by rfl, fun w _ => by go_simp⟩) (by assumption) ?_
              simp only [List.getElem_toArray, List.getElem_cons_zero, List.getElem_cons_succ, Act.put, List.setIfInBounds_toArray, List.set_cons_zero, List.set_cons_succ]
              refine wpAnyH_take (i := 3) (v := .pointer (some ⟨gf, 0, none⟩)) rfl (by kernel_rfl) (by kernel_rfl) (by kernel_rfl) (fun _ _ _ h => h) (Or.inl ⟨by rfl, fun w h => by have h9 := h.1; go_simp⟩) (by assumption) ?_
              simp only [List.getElem_toArray, List.getElem_cons_zero, List.getElem_cons_succ, Act.put, List.setIfInBounds_toArray, List.set_cons_zero, List.set_cons_succ]
              refine wpAnyH_take (i := 4) (v := .int .i64 (((k : Int) + 1))) rfl (by kernel_rfl) (by kernel_rfl) (by kernel_rfl) (fun _ _ _ h => h) (Or.inl ⟨by rfl, fun w _ => by go_simp⟩) (by assumption) ?_
              simp only [List.getElem_toArray, List.getElem_cons_zero, List.getElem_cons_succ, Act.put, List.setIfInBounds_toArray, List.set_cons_zero, List.set_cons_succ]
              refine wpAnyH_take (i := 5) (v := .int .i64 (((k : Int) + 1) * 256)) rfl (by kernel_rfl) (by kernel_rfl) (by kernel_rfl) (fun _ _ _ h => h) (Or.inl ⟨by rfl, fun w _ => by go_simp⟩) (by assumption) ?_
              simp only [List.getElem_toArray, List.getElem_cons_zero, List.getElem_cons_succ, Act.put, List.setIfInBounds_toArray, List.set_cons_zero, List.set_cons_succ]
              refine wpAnyH_take (i := 6) (v := .int .i64 0) rfl (by kernel_rfl) (by kernel_rfl) (by kernel_rfl) (fun _ _ _ h => h) (Or.inl ⟨by rfl, fun w _ => by go_simp⟩) (by assumption) ?_
              simp only [List.getElem_toArray, List.getElem_cons_zero, List.getElem_cons_succ, Act.put, List.setIfInBounds_toArray, List.set_cons_zero, List.set_cons_succ]
              refine wpAnyH_take (i := 7) (v := .int .i64 (((k : Int) + 1) * 256)) rfl (by kernel_rfl) (by kernel_rfl) (by kernel_rfl) (fun _ _ _ h => h) (Or.inl ⟨by rfl, fun w _ => by go_simp⟩) (by assumption) ?_
              simp only [List.getElem_toArray, List.getElem_cons_zero, List.getElem_cons_succ, Act.put, List.setIfInBounds_toArray, List.set_cons_zero, List.set_cons_succ]
              refine wpAnyH_take (i := 8) (v := .int .i64 (j : Int)) rfl (by kernel_rfl) (by kernel_rfl) (by kernel_rfl) (fun _ _ _ h => h) (Or.inl ⟨by rfl, fun w _ => by go_simp⟩) (by assumption) ?_
              simp only [List.getElem_toArray, List.getElem_cons_zero, List.getElem_cons_succ, Act.put, List.setIfInBounds_toArray, List.set_cons_zero, List.set_cons_succ]
              refine wpAnyH_take (i := 9) (v := .int .i64 (((k : Int) + 1) * 256 + (j : Int))) rfl (by kernel_rfl) (by kernel_rfl) (by kernel_rfl) (fun _ _ _ h => h) (Or.inl ⟨by rfl, fun w _ => by go_simp⟩) (by assumption) ?_
              simp only [List.getElem_toArray, List.getElem_cons_zero, List.getElem_cons_succ, Act.put, List.setIfInBounds_toArray, List.set_cons_zero, List.set_cons_succ]
              refine wpAnyH_take (i := 10) (v := .slice (some ⟨b, o, none⟩) nL cL) rfl (by kernel_rfl) (by kernel_rfl) (by kernel_rfl) (fun _ _ _ h => h) (Or.inl ⟨by rfl, fun w _ => by go_simp⟩) (by assumption) ?_
              simp only [List.getElem_toArray, List.getElem_cons_zero, List.getElem_cons_succ, Act.put, List.setIfInBounds_toArray, List.set_cons_zero, List.set_cons_succ]
              refine wpAnyH_take (i := 11) (v := .int .i64 (j : Int)) rfl (by kernel_rfl) (by kernel_rfl) (by kernel_rfl) (fun _ _ _ h => h) (Or.inl ⟨by rfl, fun w _ => by go_simp⟩) (by assumption) ?_
              simp only [List.getElem_toArray, List.getElem_cons_zero, List.getElem_cons_succ, Act.put, List.setIfInBounds_toArray, List.set_cons_zero, List.set_cons_succ]
              refine wpAnyH_take (i := 12) (v := .pointer (some ⟨b, o + j, none⟩)) rfl (by kernel_rfl) (by kernel_rfl) (by kernel_rfl) (fun _ _ _ h => h) (Or.inl ⟨by rfl, fun w _ => by go_simp⟩) (by assumption) ?_
              simp only [List.getElem_toArray, List.getElem_cons_zero, List.getElem_cons_succ, Act.put, List.setIfInBounds_toArray, List.set_cons_zero, List.set_cons_succ]
              refine wpAnyH_take (i := 13) (v := .int .u32 ((laidW (N + 1) r)[j].toNat : Int)) rfl (by kernel_rfl) (by kernel_rfl) (by kernel_rfl) (fun _ _ _ h => h) (Or.inl ⟨by rfl, fun w h => by have h9 := h.2; go_simp⟩) (by assumption) ?_
              simp only [List.getElem_toArray, List.getElem_cons_zero, List.getElem_cons_succ, Act.put, List.setIfInBounds_toArray, List.set_cons_zero, List.set_cons_succ]
              refine wpAnyH_ready (rs := [14]) (by kernel_rfl) (by simp) ?_
              refine AllReadyH.cons rfl (fun K hKK => ?_) AllReadyH.nil
              go_simp
              refine (rProgram_any gf hf sj _ (laidW (N + 1) r)[j] _ fj (by have := HO.out; omega)).mono ?_
              rintro e w9 ⟨rfl, f9, k9⟩
              rw [HQ.out] at f9
              rw [HQ.out, H0.out]
              have y0 : w9.cell? ⟨gj, 0, none⟩ = some (.pointer (some ⟨gf, 0, none⟩)) := (k9.blk bj (by simp; exact ⟨h1, h2⟩)).cell (j := 0) rfl
              have y13 : w9.cell? ⟨b, o + j, none⟩ = some (.int .u32 ((laidW (N + 1) r)[j].toNat : Int)) := (World.cell?_of_block (w := w8) (a := ⟨b, o + j, none⟩) (k9.block b (by omega) HBL.out)).trans hcell
              refine hKK.out _ _ (⟨y0, y13⟩) (fun hS14 => ?_)
              clear hKK
              refine wpAnyH_take (i := 15) (v := .bool false) rfl (by kernel_rfl) (by kernel_rfl) (by kernel_rfl) (fun _ _ _ h => h) (Or.inl ⟨by rfl, fun w _ => by go_simp⟩) (by assumption) ?_
              simp only [List.getElem_toArray, List.getElem_cons_zero, List.getElem_cons_succ, Act.put, List.setIfInBounds_toArray, List.set_cons_zero, List.set_cons_succ]
              refine wpAnyH_done (by kernel_rfl) ?_ _
              go_wp2
              go_roundw
              case rel =>
                refine ⟨j + 1, _, by omega, by go_num, f9, kj.trans k9 (by simp), ?_, ?_⟩
                · have h8 := HE.out
                  rw [HD.out, progsS, progsE, if_pos H0.out, if_pos H0.out] at h8
                  exact h8
                · show _ ≤ _
                  exact Nat.le_trans (proS_ops _ _ _) (by have := HO.out; omega)
              case measure => simp [intOf]; omega
            · have H0 := hide hp0
              have d0 : (proE sj ((256 * (k + 1) + j : Nat) : Int) != 0) = true := by rw [bne_iff_ne]; exact hp0
              obtain ⟨q, hq⟩ : ∃ q, q = proE sj ((256 * (k + 1) + j : Nat) : Int) := ⟨_, rfl⟩
              rw [← hq] at d0
              have HP := hide hq
              clear hp0 hq
              go_wp2_with fail
              have x0 : w7.drew.cell? ⟨gj, 0, none⟩ = some (.pointer (some ⟨gf, 0, none⟩)) := bj0.cell (j := 0) rfl
              replace hcell : w7.drew.cell? ⟨b, o + j, none⟩ = some (.int .u32 ((laidW (N + 1) r)[j].toNat : Int)) := hcell
              replace fj := ((Keeps.refl [] w7).drew).rf fj (by simp) (by simp)
              have bj : Blk w7.drew gj 54 (rjC gf k A0 An Ac N false) := bj0.drew
              have kj := hkj.drew
              have hb8 : b < w7.drew.heap.size := by show b < w7.heap.size; omega
              refine wp_region_held_drew (S := fun w' => w'.cell? ⟨gj, 0, none⟩ = some (.pointer (some ⟨gf, 0, none⟩)) ∧ w'.cell? ⟨b, o + j, none⟩ = some (.int .u32 ((laidW (N + 1) r)[j].toNat : Int))) (by kernel_rfl) ⟨x0, hcell⟩ (fun hS0 => ?_)
              clear hcw bj0 hkj
              generalize w7.drew = w8 at *
              refine wpAnyH_take (i := 0) (v := .pointer (some ⟨gj, 0, none⟩)) rfl (by kernel_rfl) (by kernel_rfl) (by kernel_rfl) (fun _ _ _ h => h) (Or.inl ⟨by rfl, fun w _ => by go_simp⟩) (by assumption) ?_
              simp only [List.getElem_toArray, List.getElem_cons_zero, Act.put, List.setIfInBounds_toArray, List.set_cons_zero, List.set_cons_succ]
              refine wpAnyH_take (i := 1) (v := .pointer (some ⟨gj, 0, none⟩)) rfl (by kernel_rfl) (by kernel_rfl) (by kernel_rfl) (fun _ _ _ h => h) (Or.inl ⟨by rfl, fun w _ => by go_simp⟩) (by assumption) ?_
              simp only [List.getElem_toArray, List.getElem_cons_zero, List.getElem_cons_succ, Act.put, List.setIfInBounds_toArray, List.set_cons_zero, List.set_cons_succ]
              refine wpAnyH_take (i := 2) (v := .pointer (some ⟨gj, 0, none⟩)) rfl (by kernel_rfl) (by kernel_rfl) (by kernel_rfl) (fun _ _ _ h => h) (Or.inl ⟨by rfl, fun w _ => by go_simp⟩) (by assumption) ?_
              simp only [List.getElem_toArray, List.getElem_cons_zero, List.getElem_cons_succ, Act.put, List.setIfInBounds_toArray, List.set_cons_zero, List.set_cons_succ]
              refine wpAnyH_take (i := 3) (v := .pointer (some ⟨gf, 0, none⟩)) rfl (by kernel_rfl) (by kernel_rfl) (by kernel_rfl) (fun _ _ _ h => h) (Or.inl ⟨by rfl, fun w h => by have h9 := h.1; go_simp⟩) (by assumption) ?_
              simp only [List.getElem_toArray, List.getElem_cons_zero, List.getElem_cons_succ, Act.put, List.setIfInBounds_toArray, List.set_cons_zero, List.set_cons_succ]
              refine wpAnyH_take (i := 4) (v := .int .i64 (((k : Int) + 1))) rfl (by kernel_rfl) (by kernel_rfl) (by kernel_rfl) (fun _ _ _ h => h) (Or.inl ⟨by rfl, fun w _ => by go_simp⟩) (by assumption) ?_
              simp only [List.getElem_toArray, List.getElem_cons_zero, List.getElem_cons_succ, Act.put, List.setIfInBounds_toArray, List.set_cons_zero, List.set_cons_succ]
              refine wpAnyH_take (i := 5) (v := .int .i64 (((k : Int) + 1) * 256)) rfl (by kernel_rfl) (by kernel_rfl) (by kernel_rfl) (fun _ _ _ h => h) (Or.inl ⟨by rfl, fun w _ => by go_simp⟩) (by assumption) ?_
              simp only [List.getElem_toArray, List.getElem_cons_zero, List.getElem_cons_succ, Act.put, List.setIfInBounds_toArray, List.set_cons_zero, List.set_cons_succ]
              refine wpAnyH_take (i := 6) (v := .int .i64 0) rfl (by kernel_rfl) (by kernel_rfl) (by kernel_rfl) (fun _ _ _ h => h) (Or.inl ⟨by rfl, fun w _ => by go_simp⟩) (by assumption) ?_
              simp only [List.getElem_toArray, List.getElem_cons_zero, List.getElem_cons_succ, Act.put, List.setIfInBounds_toArray, List.set_cons_zero, List.set_cons_succ]
              refine wpAnyH_take (i := 7) (v := .int .i64 (((k : Int) + 1) * 256)) rfl (by kernel_rfl) (by kernel_rfl) (by kernel_rfl) (fun _ _ _ h => h) (Or.inl ⟨by rfl, fun w _ => by go_simp⟩) (by assumption) ?_
              simp only [List.getElem_toArray, List.getElem_cons_zero, List.getElem_cons_succ, Act.put, List.setIfInBounds_toArray, List.set_cons_zero, List.set_cons_succ]
              refine wpAnyH_take (i := 8) (v := .int .i64 (j : Int)) rfl (by kernel_rfl) (by kernel_rfl) (by kernel_rfl) (fun _ _ _ h => h) (Or.inl ⟨by rfl, fun w _ => by go_simp⟩) (by assumption) ?_
              simp only [List.getElem_toArray, List.getElem_cons_zero, List.getElem_cons_succ, Act.put, List.setIfInBounds_toArray, List.set_cons_zero, List.set_cons_succ]
              refine wpAnyH_take (i := 9) (v := .int .i64 (((k : Int) + 1) * 256 + (j : Int))) rfl (by kernel_rfl) (by kernel_rfl) (by kernel_rfl) (fun _ _ _ h => h) (Or.inl ⟨by rfl, fun w _ => by go_simp⟩) (by assumption) ?_
              simp only [List.getElem_toArray, List.getElem_cons_zero, List.getElem_cons_succ, Act.put, List.setIfInBounds_toArray, List.set_cons_zero, List.set_cons_succ]
              refine wpAnyH_take (i := 10) (v := .slice (some ⟨b, o, none⟩) nL cL) rfl (by kernel_rfl) (by kernel_rfl) (by kernel_rfl) (fun _ _ _ h => h) (Or.inl ⟨by rfl, fun w _ => by go_simp⟩) (by assumption) ?_
              simp only [List.getElem_toArray, List.getElem_cons_zero, List.getElem_cons_succ, Act.put, List.setIfInBounds_toArray, List.set_cons_zero, List.set_cons_succ]
              refine wpAnyH_take (i := 11) (v := .int .i64 (j : Int)) rfl (by kernel_rfl) (by kernel_rfl) (by kernel_rfl) (fun _ _ _ h => h) (Or.inl ⟨by rfl, fun w _ => by go_simp⟩) (by assumption) ?_
              simp only [List.getElem_toArray, List.getElem_cons_zero, List.getElem_cons_succ, Act.put, List.setIfInBounds_toArray, List.set_cons_zero, List.set_cons_succ]
              refine wpAnyH_take (i := 12) (v := .pointer (some ⟨b, o + j, none⟩)) rfl (by kernel_rfl) (by kernel_rfl) (by kernel_rfl) (fun _ _ _ h => h) (Or.inl ⟨by rfl, fun w _ => by go_simp⟩) (by assumption) ?_
              simp only [List.getElem_toArray, List.getElem_cons_zero, List.getElem_cons_succ, Act.put, List.setIfInBounds_toArray, List.set_cons_zero, List.set_cons_succ]
              refine wpAnyH_take (i := 13) (v := .int .u32 ((laidW (N + 1) r)[j].toNat : Int)) rfl (by kernel_rfl) (by kernel_rfl) (by kernel_rfl) (fun _ _ _ h => h) (Or.inl ⟨by rfl, fun w h => by have h9 := h.2; go_simp⟩) (by assumption) ?_
              simp only [List.getElem_toArray, List.getElem_cons_zero, List.getElem_cons_succ, Act.put, List.setIfInBounds_toArray, List.set_cons_zero, List.set_cons_succ]
              refine wpAnyH_ready (rs := [14]) (by kernel_rfl) (by simp) ?_
              refine AllReadyH.cons rfl (fun K hKK => ?_) AllReadyH.nil
              go_simp
              refine (rProgram_any gf hf sj _ (laidW (N + 1) r)[j] _ fj (by have := HO.out; omega)).mono ?_
              rintro e w9 ⟨rfl, f9, k9⟩
              rw [HQ.out] at f9
              rw [HQ.out, ← HP.out]
              have y0 : w9.cell? ⟨gj, 0, none⟩ = some (.pointer (some ⟨gf, 0, none⟩)) := (k9.blk bj (by simp; exact ⟨h1, h2⟩)).cell (j := 0) rfl
              have y13 : w9.cell? ⟨b, o + j, none⟩ = some (.int .u32 ((laidW (N + 1) r)[j].toNat : Int)) := (World.cell?_of_block (w := w8) (a := ⟨b, o + j, none⟩) (k9.block b (by omega) HBL.out)).trans hcell
              refine hKK.out _ _ (⟨y0, y13⟩) (fun hS14 => ?_)
              clear hKK
              refine wpAnyH_take (i := 15) (v := .bool true) rfl (by kernel_rfl) (by kernel_rfl) (by kernel_rfl) (fun _ _ _ h => h) (Or.inl ⟨by rfl, fun w _ => by go_simp⟩) (by assumption) ?_
              simp only [List.getElem_toArray, List.getElem_cons_zero, List.getElem_cons_succ, Act.put, List.setIfInBounds_toArray, List.set_cons_zero, List.set_cons_succ]
              refine wpAnyH_done (by kernel_rfl) ?_ _
              have b9 := k9.blk bj (by simp; exact ⟨h1, h2⟩)
              have u2 : w9.cell? ⟨gj, 2, none⟩ = some (.bool false) := b9.cell (j := 2) rfl
              have v2 := b9.frozen 2
              go_wp2
              go_ret
              have h8 := HE.out
              rw [HD.out, progsS, progsE, if_neg H0.out, if_neg H0.out] at h8
              have he7 : appE s k r = 7 := by
                rcases HSP.out.2.2 with h | h
                · exact absurd (h8.2.trans h.1) H0.out
                · exact h.1
              have k10 : Keeps [gj] w9 (w9.setCell ⟨gj, 2, none⟩ (.bool true)) := (Keeps.refl _ _).set (.inl (by simp)) _
              exact ⟨by rw [he7]; rfl, by rw [← h8.1]; exact k10.rf f9 (by simp; exact fun e => h1 e.symm) (by simp; exact fun e => h2 e.symm), ((HKL.out.trans (kj.trans k9 (by simp)) (by simp)).trans k10 (by simp)), .inr ⟨he7, b9.set 2 _⟩⟩
          · obtain rfl : nL = j := by omega
            have h8 := HE.out
            rw [List.drop_eq_nil_of_le (by rw [laidW_len]; have := HNL.out; omega), progsS, progsE] at h8
            have b9 := hkj.blk HBW.out (by simp; exact ⟨h1, h2⟩)
            have k9 := HKL.out.trans hkj (by simp)
            have hs9 := k9.size
            have u4 : w7.cell? ⟨gj, 4, none⟩ = some (.int .u32 (N : Int)) := b9.cell (j := 4) rfl
            have u3 : w7.cell? ⟨gj, 3, none⟩ = some (.slice A0 An Ac) := b9.cell (j := 3) rfl
            have v4 := b9.frozen 4
            have v3 := b9.frozen 3
            obtain ⟨w10, hw10⟩ : ∃ w10, w10 = (w7.setCell ⟨gj, 4, none⟩ (.int .u32 ((N : Int) + 1))).setCell ⟨gj, 3, none⟩ (.slice none 0 0) := ⟨_, rfl⟩
            have b10 : Blk w10 gj 54 (rjC gf k none 0 0 (N + 1) false) := by rw [hw10]; exact (b9.set 4 _).set 3 _
            have k10 : Keeps [gj] w7 w10 := by rw [hw10]; exact ((Keeps.refl _ _).set (.inl (by simp)) _).set (.inl (by simp)) _
            have hs10 : w10.heap.size = w7.heap.size := by rw [hw10]; simp [World.setCell]
            have k010 := k9.trans k10 (by simp)
            have rr : Row w10 w.heap.size A r.length c (cs32 r) := k010.rowAt HR.out.1 (Nat.le_refl _) HR.out.2
            have f10 := k10.rf fj (by simp; exact fun e => h1 e.symm) (by simp; exact fun e => h2 e.symm)
            have HF := hide (And.intro b10 (And.intro k010 (And.intro rr f10)))
            have HW10 := hide hw10
            have h8' := hide h8
            have y3 : ((w7.setCell ⟨gj, 4, none⟩ (.int .u32 ((N : Int) + 1))).setCell ⟨gj, 3, none⟩ (.slice none 0 0)).cell? ⟨gj, 3, none⟩ = some (.slice none 0 0) := by rw [← hw10]; exact b10.cell (j := 3) rfl
            clear b10 k10 k010 rr f10 hw10 h8 b9 k9 fj hkj
            go_wp2_with (at_builtin; rw [← HW10.out]; refine wpList_append_row rfl (.tmp 183) (.tmp 184) 36 rfl w10.heap.size 37 i0 _ 4 Try.underlying36 hi hz0 hz1 hz2 rfl _ _ _ rfl (World.ownsRow_nil _ _ _ _) _ _ _ _ _ rfl HF.out.2.2.1 (cs32_one _) (by unfold maxLen; omega) (by omega) w10 (Below.refl _ _) (Nat.le_refl _) ?_; intro A6 c6 w11 ho11 hb11 hg11; simp only [Nat.zero_add, List.nil_append] at ho11 ⊢; have k11 := Keeps.of_below (S := []) hb11; have b11 := k11.blk HF.out.1 (by simp); have y113 : w11.cell? ⟨gj, 3, none⟩ = some (.slice none 0 0) := b11.cell (j := 3) rfl; have z113 := b11.frozen 3; have hs11 := hb11.size; have H11 := hide (And.intro ho11 (And.intro b11 k11)); clear b11 k11 ho11 hb11 hg11)
            go_ret
            have kf : Keeps [gj] w11 (w11.setCell ⟨gj, 3, none⟩ (.slice A6 r.length c6)) := (Keeps.refl _ _).set (.inl (by simp)) _
            have f11 := kf.rf (H11.out.2.2.rf HF.out.2.2.2 (by simp) (by simp)) (by simp; exact fun e => h1 e.symm) (by simp; exact fun e => h2 e.symm)
            refine ⟨by rw [← h8'.out.2]; rfl, by rw [← h8'.out.1]; exact f11, ((HF.out.2.1.trans H11.out.2.2 (by simp)).trans kf (by simp)), .inl ⟨h8'.out.2.symm, A6, c6, H11.out.2.1.set 3 _, ?_⟩⟩
            refine own_base (base := w10.heap.size) (by omega) (kf.own H11.out.1 (fun x e => ?_))
            rcases own_addr H11.out.1 with h9 | ⟨y, h9, h10, _⟩
            · rw [h9] at e; cases e
            · rw [h9] at e; cases e; simp; omega
    · have d9 : (q != 0) = true := by rw [bne_iff_ne]; exact hq0
      have he7 : appE s k r = 7 := by
        rcases HSP.out.2.2 with h | h
        · have h9 := h.1
          unfold appE at h9
          rw [if_neg hfit, HC.out.2, if_neg (fun e => hq0 (hq.trans e))] at h9
          exact absurd (hq.trans h9) hq0
        · exact h.1
      have hs9 : appS s k r = s1 := by unfold appS; rw [if_neg hfit, HC.out.2, if_neg (fun e => hq0 (hq.trans e)), hs1]
      have H79 := hide (And.intro he7 hs9)
      clear hq hs1 hfit hff he7 hs9 hq0
      rcases key with hc | ⟨hc, hd9⟩
      all_goals
        subst hc
        go_wp2_with (go_at_call 32; refine (rErase_any gf hf s _ w6 f6 (by omega)).mono ?_; rintro e w61 ⟨rfl, f1, ke⟩; rw [show eraE s (((k : Int) + 1)) = q from HQE.out.1.symm]; rw [show eraS s (((k : Int) + 1)) = s1 from HQE.out.2.symm] at f1; have b9 := ke.blk bw (by simp; exact ⟨h1, h2⟩); have u2 : w61.cell? ⟨gj, 2, none⟩ = some (.bool false) := b9.cell (j := 2) rfl; have v2 := b9.frozen 2; have kl : Keeps [gj, gf, hf] w w61 := (k06.more (by simp)).trans ke (by simp); have H9 := hide (And.intro b9 kl); clear b9 kl)
        go_ret
        have k10 : Keeps [gj] w61 (w61.setCell ⟨gj, 2, none⟩ (.bool true)) := (Keeps.refl _ _).set (.inl (by simp)) _
        exact ⟨by rw [H79.out.1]; rfl, by rw [H79.out.2]; exact k10.rf f1 (by simp; exact fun e => h1 e.symm) (by simp; exact fun e => h2 e.symm), H9.out.2.trans k10 (by simp), .inr ⟨H79.out.1, H9.out.1.set 2 _⟩⟩
end Go.Proofs.Ytahnfkoakaimhaa
