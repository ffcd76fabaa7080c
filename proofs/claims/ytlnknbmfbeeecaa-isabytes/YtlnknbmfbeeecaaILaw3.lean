/-
  The walks of the laws IsaBytes and IsaBack.
-/
import Derived.Test.YtlnknbmfbeeecaaILaw2
namespace Go.Proofs.Ytlnknbmfbeeecaa
open Go.RowKit
set_option maxHeartbeats 2000000

/-- What is held while the answers are compared. -/
structure SB (g : Nat) (o x : Int) (B : Nat) (A2 : Option Addr) (n2 c2 : Nat) (A3 : Option Addr) (n3 c3 : Nat) (L : List UInt8) (w : World) : Prop where
  cells : w.cell? ⟨g, 0, none⟩ = some (.int .i64 o) ∧ w.cell? ⟨g, 1, none⟩ = some (.int .i32 x)
  lt : g < B
  le : B ≤ w.heap.size
  r1 : Row w B A2 n2 c2 (cs8 L)
  r2 : Row w B A3 n3 c3 (cs8 L)
section
variable {g B n2 c2 n3 c3 : Nat} {o x : Int} {A2 A3 : Option Addr} {L : List UInt8} {w w' : World}
theorem SB.s1 (h : SB g o x B A2 n2 c2 A3 n3 c3 L w) : (convert 24 9 (.slice A2 n2 c2)).run Try.prog w = .ok (.string ⟨L.toArray⟩) w := h.r1.str (P := Try.prog) (dst := 9) Try.underlying24 Try.underlying5 Try.underlying9
theorem SB.s2 (h : SB g o x B A2 n2 c2 A3 n3 c3 L w) : (convert 24 9 (.slice A3 n3 c3)).run Try.prog w = .ok (.string ⟨L.toArray⟩) w := h.r2.str (P := Try.prog) (dst := 9) Try.underlying24 Try.underlying5 Try.underlying9
theorem SB.keep (h : SB g o x B A2 n2 c2 A3 n3 c3 L w) (hb : Below w.heap.size w w') : SB g o x B A2 n2 c2 A3 n3 c3 L w' :=
  ⟨⟨(hb.cell (p := ⟨g, 0, none⟩) (Nat.lt_of_lt_of_le h.lt h.le)).trans h.cells.1, (hb.cell (p := ⟨g, 1, none⟩) (Nat.lt_of_lt_of_le h.lt h.le)).trans h.cells.2⟩, h.lt, Nat.le_trans h.le hb.size, h.r1.keep hb h.le, h.r2.keep hb h.le⟩
end
theorem bytes_walk (i : Int × Int) (w : World) (hi : okI i) :
    Calls Try.prog 3 #[.agg #[.int .i64 i.1, .int .i32 i.2]] w fun e w' => e = .returned (.bool true) ∧ Below w.heap.size w w' := by
  obtain ⟨o, x⟩ := i
  have HX := hide (show -2147483648 ≤ x ∧ x ≤ 2147483647 from hi)
  clear hi
  obtain ⟨er, her⟩ : ∃ z, rgtE o x = z := ⟨_, rfl⟩
  obtain ⟨sz, hsz⟩ : ∃ z, sizI o x = z := ⟨_, rfl⟩
  have hL5 : (bytI o x).length ≤ 5 := by rw [bytI_len]; exact sizI_le o x
  obtain ⟨L, hL⟩ : ∃ z, bytI o x = z := ⟨_, rfl⟩
  rw [hL] at hL5
  have HC := hide (And.intro her hsz)
  have HL := hide hL
  clear her hsz hL
  go_enter Try.func3, Try.ntmps3
  go_wp2_with fail
  refine (Bytes_any o x _ HX.out).mono ?_
  rw [HC.out.1, HL.out]
  rintro e w2 ⟨A2, n2, c2, rfl, ho2, hb2⟩
  obtain ⟨c0, c1, hb02, hs02⟩ := boxed hb2
  have hs2 := hb2.size
  have ho2' : w2.ownsRow (w.heap.size + 1) 5 1 (.slice A2 n2 c2) n2 (cs8 L) := by simpa using ho2
  clear ho2 hb2
  go_wp2_with fail
  refine (rBytes_any o x _ HX.out).mono ?_
  rw [HC.out.1, HL.out]
  rintro e w3 ⟨A3, n3, c3, rfl, ho3, hb3⟩
  have hs3 := hb3.size
  have k2 := own_keep ho2' hb3
  have hw3 := hb02.trans (hb3.mono (by omega))
  have hS3 : SB w.heap.size o x w3.heap.size A2 n2 c2 A3 n3 c3 L w3 := ⟨⟨(hb3.cell (p := ⟨w.heap.size, 0, none⟩) hs02).trans c0, (hb3.cell (p := ⟨w.heap.size, 1, none⟩) hs02).trans c1⟩, by omega, Nat.le_refl _, Row.of_own k2, Row.of_own ho3⟩
  have hlt2 : ∀ k, (Value.slice A2 n2 c2).ownBlock = some k → k < w2.heap.size := fun k hk => (ho2'.lt k hk).2
  have HLT := hide hlt2
  have HO := hide (And.intro k2 ho3)
  have hS4 : SB w.heap.size o x w3.heap.size A2 n2 c2 A3 n3 c3 L w3.drew := hS3.keep (Below.refl _ w3).drew
  have hw4 : Below w3.heap.size w3 w3.drew := (Below.refl _ w3).drew
  have hs4 : w3.heap.size ≤ w3.drew.heap.size := Nat.le_refl _
  have hn2 : n2 ≤ 5 := by have := own8_len k2; omega
  have HW := hide hw3
  have hs23 := hs3
  clear c0 c1 hb02 ho2' ho3 hb3 k2 hS3 hlt2 hw3 hs3
  go_wp2_with fail
  refine wp_region_held_drew (S := SB w.heap.size o x w3.heap.size A2 n2 c2 A3 n3 c3 L) (by kernel_rfl) hS4 (fun hS0 => ?_)
  clear hS0
  generalize w3.drew = w4 at hS4 hw4 hs4 ⊢
  refine wpAnyH_take (i := 0) (v := .slice A2 n2 c2) rfl (by kernel_rfl) (by kernel_rfl) (by kernel_rfl) (fun _ _ _ h => h) (Or.inl ⟨by rfl, fun w _ => by go_simp⟩) (by assumption) ?_
  simp only [List.getElem_toArray, List.getElem_cons_zero, Act.put, List.setIfInBounds_toArray, List.set_cons_zero, List.set_cons_succ]
  refine wpAnyH_take (i := 1) (v := .string ⟨L.toArray⟩) rfl (by kernel_rfl) (by kernel_rfl) (by kernel_rfl) (fun _ _ _ h => h) (Or.inl ⟨by rfl, fun w h => by have h9 := (SB.s1 h); go_simp⟩) (by assumption) ?_
  simp only [List.getElem_toArray, List.getElem_cons_zero, List.getElem_cons_succ, Act.put, List.setIfInBounds_toArray, List.set_cons_zero, List.set_cons_succ]
  refine wpAnyH_take (i := 2) (v := .slice A3 n3 c3) rfl (by kernel_rfl) (by kernel_rfl) (by kernel_rfl) (fun _ _ _ h => h) (Or.inl ⟨by rfl, fun w _ => by go_simp⟩) (by assumption) ?_
  simp only [List.getElem_toArray, List.getElem_cons_zero, List.getElem_cons_succ, Act.put, List.setIfInBounds_toArray, List.set_cons_zero, List.set_cons_succ]
  refine wpAnyH_take (i := 3) (v := .string ⟨L.toArray⟩) rfl (by kernel_rfl) (by kernel_rfl) (by kernel_rfl) (fun _ _ _ h => h) (Or.inl ⟨by rfl, fun w h => by have h9 := (SB.s2 h); go_simp⟩) (by assumption) ?_
  simp only [List.getElem_toArray, List.getElem_cons_zero, List.getElem_cons_succ, Act.put, List.setIfInBounds_toArray, List.set_cons_zero, List.set_cons_succ]
  refine wpAnyH_take (i := 4) (v := .bool true) rfl (by kernel_rfl) (by kernel_rfl) (by kernel_rfl) (fun _ _ _ h => h) (Or.inl ⟨by rfl, fun w _ => by go_simp⟩) (by assumption) ?_
  simp only [List.getElem_toArray, List.getElem_cons_zero, List.getElem_cons_succ, Act.put, List.setIfInBounds_toArray, List.set_cons_zero, List.set_cons_succ]
  refine wpAnyH_take (i := 5) (v := .bool true) rfl (by kernel_rfl) (by kernel_rfl) (by kernel_rfl) (fun _ _ _ h => h) (Or.inl ⟨by rfl, fun w _ => by go_simp⟩) (by assumption) ?_
  simp only [List.getElem_toArray, List.getElem_cons_zero, List.getElem_cons_succ, Act.put, List.setIfInBounds_toArray, List.set_cons_zero, List.set_cons_succ]
  refine wpAnyH_take (i := 6) (v := .int .i64 er) rfl (by kernel_rfl) (by kernel_rfl) (by kernel_rfl) (fun _ _ _ h => h) (Or.inl ⟨by rfl, fun w _ => by go_simp⟩) (by assumption) ?_
  simp only [List.getElem_toArray, List.getElem_cons_zero, List.getElem_cons_succ, Act.put, List.setIfInBounds_toArray, List.set_cons_zero, List.set_cons_succ]
  refine wpAnyH_take (i := 7) (v := .int .i64 er) rfl (by kernel_rfl) (by kernel_rfl) (by kernel_rfl) (fun _ _ _ h => h) (Or.inl ⟨by rfl, fun w _ => by go_simp⟩) (by assumption) ?_
  simp only [List.getElem_toArray, List.getElem_cons_zero, List.getElem_cons_succ, Act.put, List.setIfInBounds_toArray, List.set_cons_zero, List.set_cons_succ]
  refine wpAnyH_take (i := 8) (v := .bool true) rfl (by kernel_rfl) (by kernel_rfl) (by kernel_rfl) (fun _ _ _ h => h) (Or.inl ⟨by rfl, fun w _ => by go_simp⟩) (by assumption) ?_
  simp only [List.getElem_toArray, List.getElem_cons_zero, List.getElem_cons_succ, Act.put, List.setIfInBounds_toArray, List.set_cons_zero, List.set_cons_succ]
  refine wpAnyH_take (i := 9) (v := .bool true) rfl (by kernel_rfl) (by kernel_rfl) (by kernel_rfl) (fun _ _ _ h => h) (Or.inl ⟨by rfl, fun w _ => by go_simp⟩) (by assumption) ?_
  simp only [List.getElem_toArray, List.getElem_cons_zero, List.getElem_cons_succ, Act.put, List.setIfInBounds_toArray, List.set_cons_zero, List.set_cons_succ]
  refine wpAnyH_take (i := 10) (v := .bool true) rfl (by kernel_rfl) (by kernel_rfl) (by kernel_rfl) (fun _ _ _ h => h) (Or.inl ⟨by rfl, fun w _ => by go_simp⟩) (by assumption) ?_
  simp only [List.getElem_toArray, List.getElem_cons_zero, List.getElem_cons_succ, Act.put, List.setIfInBounds_toArray, List.set_cons_zero, List.set_cons_succ]
  refine wpAnyH_take (i := 11) (v := .agg #[.int .i64 o, .int .i32 x]) rfl (by kernel_rfl) (by kernel_rfl) (by kernel_rfl) (fun _ _ _ h => h) (Or.inl ⟨by rfl, fun w h => by have h9 := (SB.cells h); go_simp⟩) (by assumption) ?_
  simp only [List.getElem_toArray, List.getElem_cons_zero, List.getElem_cons_succ, Act.put, List.setIfInBounds_toArray, List.set_cons_zero, List.set_cons_succ]
  refine wpAnyH_take (i := 13) (v := .agg #[.int .i64 o, .int .i32 x]) rfl (by kernel_rfl) (by kernel_rfl) (by kernel_rfl) (fun _ _ _ h => h) (Or.inl ⟨by rfl, fun w h => by have h9 := (SB.cells h); go_simp⟩) (by assumption) ?_
  simp only [List.getElem_toArray, List.getElem_cons_zero, List.getElem_cons_succ, Act.put, List.setIfInBounds_toArray, List.set_cons_zero, List.set_cons_succ]
  refine wpAnyH_ready (rs := [12]) (by kernel_rfl) (by simp) ?_
  refine AllReadyH.cons rfl (fun K hKK => ?_) AllReadyH.nil
  go_simp
  refine (Right_any _ _ _).mono ?_
  rw [HC.out.1]
  rintro e w5 ⟨rfl, hb5⟩
  have hS5' := hS4.keep hb5
  have hw5 := hw4.trans (hb5.mono hs4)
  have hs5 : w3.heap.size ≤ w5.heap.size := Nat.le_trans hs4 hb5.size
  refine hKK.out _ _ (hS5') (fun hS12 => ?_)
  clear hKK
  refine wpAnyH_ready (rs := [14]) (by kernel_rfl) (by simp) ?_
  refine AllReadyH.cons rfl (fun K hKK => ?_) AllReadyH.nil
  go_simp
  refine (rRight_any _ _ _).mono ?_
  rw [HC.out.1]
  rintro e w6 ⟨rfl, hb6⟩
  have hS6' := hS5'.keep hb6
  have hw6 := hw5.trans (hb6.mono hs5)
  have hs6 : w3.heap.size ≤ w6.heap.size := Nat.le_trans hs5 hb6.size
  refine hKK.out _ _ (hS6') (fun hS14 => ?_)
  clear hKK
  refine wpAnyH_take (i := 15) (v := .bool true) rfl (by kernel_rfl) (by kernel_rfl) (by kernel_rfl) (fun _ _ _ h => h) (Or.inl ⟨by rfl, fun w _ => by go_simp⟩) (by assumption) ?_
  simp only [List.getElem_toArray, List.getElem_cons_zero, List.getElem_cons_succ, Act.put, List.setIfInBounds_toArray, List.set_cons_zero, List.set_cons_succ]
  refine wpAnyH_take (i := 16) (v := .bool true) rfl (by kernel_rfl) (by kernel_rfl) (by kernel_rfl) (fun _ _ _ h => h) (Or.inl ⟨by rfl, fun w _ => by go_simp⟩) (by assumption) ?_
  simp only [List.getElem_toArray, List.getElem_cons_zero, List.getElem_cons_succ, Act.put, List.setIfInBounds_toArray, List.set_cons_zero, List.set_cons_succ]
  refine wpAnyH_take (i := 17) (v := .bool true) rfl (by kernel_rfl) (by kernel_rfl) (by kernel_rfl) (fun _ _ _ h => h) (Or.inl ⟨by rfl, fun w _ => by go_simp⟩) (by assumption) ?_
  simp only [List.getElem_toArray, List.getElem_cons_zero, List.getElem_cons_succ, Act.put, List.setIfInBounds_toArray, List.set_cons_zero, List.set_cons_succ]
  refine wpAnyH_take (i := 18) (v := .agg #[.int .i64 o, .int .i32 x]) rfl (by kernel_rfl) (by kernel_rfl) (by kernel_rfl) (fun _ _ _ h => h) (Or.inl ⟨by rfl, fun w h => by have h9 := (SB.cells h); go_simp⟩) (by assumption) ?_
  simp only [List.getElem_toArray, List.getElem_cons_zero, List.getElem_cons_succ, Act.put, List.setIfInBounds_toArray, List.set_cons_zero, List.set_cons_succ]
  refine wpAnyH_take (i := 20) (v := .agg #[.int .i64 o, .int .i32 x]) rfl (by kernel_rfl) (by kernel_rfl) (by kernel_rfl) (fun _ _ _ h => h) (Or.inl ⟨by rfl, fun w h => by have h9 := (SB.cells h); go_simp⟩) (by assumption) ?_
  simp only [List.getElem_toArray, List.getElem_cons_zero, List.getElem_cons_succ, Act.put, List.setIfInBounds_toArray, List.set_cons_zero, List.set_cons_succ]
  refine wpAnyH_ready (rs := [19]) (by kernel_rfl) (by simp) ?_
  refine AllReadyH.cons rfl (fun K hKK => ?_) AllReadyH.nil
  go_simp
  refine (Size_any _ _ _).mono ?_
  rw [HC.out.2]
  rintro e w7 ⟨rfl, hb7⟩
  have hS7' := hS6'.keep hb7
  have hw7 := hw6.trans (hb7.mono hs6)
  have hs7 : w3.heap.size ≤ w7.heap.size := Nat.le_trans hs6 hb7.size
  refine hKK.out _ _ (hS7') (fun hS19 => ?_)
  clear hKK
  refine wpAnyH_ready (rs := [21]) (by kernel_rfl) (by simp) ?_
  refine AllReadyH.cons rfl (fun K hKK => ?_) AllReadyH.nil
  go_simp
  refine (rSize_any _ _ _ HX.out).mono ?_
  rw [HC.out.2]
  rintro e w8 ⟨rfl, hb8⟩
  have hS8' := hS7'.keep hb8
  have hw8 := hw7.trans (hb8.mono hs7)
  have hs8 : w3.heap.size ≤ w8.heap.size := Nat.le_trans hs7 hb8.size
  refine hKK.out _ _ (hS8') (fun hS21 => ?_)
  clear hKK
  refine wpAnyH_take (i := 22) (v := .bool true) rfl (by kernel_rfl) (by kernel_rfl) (by kernel_rfl) (fun _ _ _ h => h) (Or.inl ⟨by rfl, fun w _ => by go_simp⟩) (by assumption) ?_
  simp only [List.getElem_toArray, List.getElem_cons_zero, List.getElem_cons_succ, Act.put, List.setIfInBounds_toArray, List.set_cons_zero, List.set_cons_succ]
  refine wpAnyH_take (i := 23) (v := .bool true) rfl (by kernel_rfl) (by kernel_rfl) (by kernel_rfl) (fun _ _ _ h => h) (Or.inl ⟨by rfl, fun w _ => by go_simp⟩) (by assumption) ?_
  simp only [List.getElem_toArray, List.getElem_cons_zero, List.getElem_cons_succ, Act.put, List.setIfInBounds_toArray, List.set_cons_zero, List.set_cons_succ]
  refine wpAnyH_take (i := 24) (v := .bool true) rfl (by kernel_rfl) (by kernel_rfl) (by kernel_rfl) (fun _ _ _ h => h) (Or.inl ⟨by rfl, fun w _ => by go_simp⟩) (by assumption) ?_
  simp only [List.getElem_toArray, List.getElem_cons_zero, List.getElem_cons_succ, Act.put, List.setIfInBounds_toArray, List.set_cons_zero, List.set_cons_succ]
  refine wpAnyH_done (by kernel_rfl) ?_ _
  clear hS5' hS6' hS7' hw4 hw5 hw6 hw7 hs4 hs5 hs6 hs7 hb5 hb6 hb7 hb8 hS4
  have k2 := own_keep HO.out.1 hw8
  have k3 := own_keep HO.out.2 hw8
  go_wp2_with (go_at_call 16; refine (Spoil_any _ _ _ _ _ _ k2 (by omega) (by omega)).mono ?_; rintro e w9 ⟨rfl, hg9⟩; have k3' := own_apart k3 hg9 HLT.out (Nat.le_refl _); have hb9 : Below (w.heap.size + 1) w8 w9 := grown_below hg9 k2 (by omega); have c0 := (hb9.cell (p := ⟨w.heap.size, 0, none⟩) (show w.heap.size < w.heap.size + 1 by omega)).trans hS8'.cells.1; have c1 := (hb9.cell (p := ⟨w.heap.size, 1, none⟩) (show w.heap.size < w.heap.size + 1 by omega)).trans hS8'.cells.2)
  have hw9 := (HW.out.trans (hw8.mono (by omega))).trans (hb9.mono (by omega))
  have HW9 := hide hw9
  have hs9 := hw9.size
  clear k2 k3 hg9 hb9 hS8' hw8 hw9
  refine (Bytes_any o x _ HX.out).mono ?_
  rw [HC.out.1, HL.out]
  rintro e w10 ⟨A10, n10, c10, rfl, ho10, hb10⟩
  have q1 := (Row.of_own ho10).str (P := Try.prog) (dst := 9) Try.underlying24 Try.underlying5 Try.underlying9
  have q2 := (Row.of_own (own_keep k3' hb10)).str (P := Try.prog) (dst := 9) Try.underlying24 Try.underlying5 Try.underlying9
  have HB := hide (HW9.out.trans (hb10.mono hs9))
  clear ho10 hb10 k3' c0 c1
  go_wp2_with (go_at_call 17; refine (known_any _).mono ?_; rintro e wk ⟨rfl, hbk⟩)
  go_ret
  exact ⟨rfl, HB.out.trans (hbk.mono HB.out.size)⟩
end Go.Proofs.Ytlnknbmfbeeecaa
