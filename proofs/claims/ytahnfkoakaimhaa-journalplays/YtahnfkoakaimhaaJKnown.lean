/-
  Plain facts of a new flash, and the contract of the laws' helper known.
-/
import Derived.Test.YtahnfkoakaimhaaJPkg8
import Derived.Test.YtahnfkoakaimhaaJPkg9
namespace Go.Proofs.Ytahnfkoakaimhaa
open Go.RowKit
set_option maxHeartbeats 2000000

/-- Two sectors that are erased. -/
theorem blank {ws : List UInt32} {k : Nat} (hl : 256 * (k + 2) ≤ ws.length) (h : ∀ i, 256 * k ≤ i → i < 256 * (k + 2) → ws[i]? = some ones32) : curN ws k = k ∧ othN ws k = k + 1 ∧ curV ws k = sv0 ∧ curC ws k = true := by
  have h1 : walkW (sect ws k) = sv0 := walk_erased (.inl (by rw [sect_at, if_pos (by omega)]; exact h _ (by omega) (by omega)))
  have h2 : walkW (sect ws (k + 1)) = sv0 := walk_erased (.inl (by rw [sect_at, if_pos (by omega)]; exact h _ (by omega) (by omega)))
  have hf : secB ws k = false := by unfold secB; rw [h1, h2]; rfl
  have e1 : curN ws k = k := by unfold curN; rw [hf]; rfl
  have e2 : othN ws k = k + 1 := by unfold othN; rw [hf]; rfl
  have e3 : curV ws k = sv0 := by unfold curV; rw [e1]; exact h1
  refine ⟨e1, e2, e3, ?_⟩
  unfold curC
  rw [e1, e3]
  refine clean_of (fun j _ hj => ?_)
  rw [sect_len (by omega)] at hj
  rw [sect_at, if_pos hj]
  exact h _ (by omega) (by omega)
def newS (m : Nat) : FS := ofS (List.replicate (256 * m) ones32)
theorem new_at {m i : Nat} (h : i < 256 * m) : (newS m).ws[i]? = some ones32 := by
  show (List.replicate (256 * m) ones32)[i]? = _
  rw [List.getElem?_replicate, if_pos h]
theorem new_len (m : Nat) : (newS m).ws.length = 256 * m := by show (List.replicate (256 * m) ones32).length = _; simp
theorem new_blank {m k : Nat} (h : k + 2 ≤ m) : curN (newS m).ws k = k ∧ othN (newS m).ws k = k + 1 ∧ curV (newS m).ws k = sv0 ∧ curC (newS m).ws k = true :=
  blank (by rw [new_len]; omega) (fun i _ h2 => new_at (by omega))
theorem new_opJ {m k : Nat} (h : k + 2 ≤ m) : opJ (newS m).ws k = ⟨[], 0, false⟩ := by unfold opJ; rw [(new_blank h).2.2.1]; rfl
theorem known_app : appE (newS 2) 0 [5, 6] = 0 ∧ (appS (newS 2) 0 [5, 6]).on = true ∧ (appS (newS 2) 0 [5, 6]).ws.length = 512 ∧ (appS (newS 2) 0 [5, 6]).ws[1]? = some 2 ∧ (appS (newS 2) 0 [5, 6]).ws[5]? = some 0 := by
  obtain ⟨h1, h2, h3, h4⟩ := new_blank (m := 2) (k := 0) (by omega)
  have hf : fitB (newS 2).ws 0 [(5 : UInt32), 6].length = true := by unfold fitB; rw [h3, h4]; rfl
  have e1 : appS (newS 2) 0 [5, 6] = progsS (newS 2) 0 (laidW 1 [5, 6]) := by unfold appS; rw [if_pos hf, h1, h3]; rfl
  have e2 : appE (newS 2) 0 [5, 6] = progsE (newS 2) 0 (laidW 1 [5, 6]) := by unfold appE; rw [if_pos hf, h1, h3]; rfl
  have hl := laidW_len 1 [5, 6]
  have hlen := new_len 2
  rcases progs_spec (laidW 1 [5, 6]) (newS 2) 0 rfl (fun j hj => new_at (by rw [hl] at hj; simp at hj; omega)) with ⟨q1, q2, q3, _⟩ | ⟨_, _, ⟨k, x, hp⟩, _⟩
  · rw [e1, e2]
    have hp : 0 + (laidW 1 [5, 6]).length ≤ (newS 2).ws.length := by rw [hl, hlen]; simp
    refine ⟨q1, q2, by rw [q3, putW_len hp, hlen], ?_, ?_⟩
    · rw [q3, putW_at hp, if_neg (by omega), if_pos (by rw [hl]; simp)]; rfl
    · rw [q3, putW_at hp, if_neg (by omega), if_pos (by rw [hl]; simp)]; rfl
  · cases hp
theorem known_j : jE (newS 2) 0 ⟨[], 0, false⟩ [5, 6] = 0 ∧ jS (newS 2) 0 ⟨[], 0, false⟩ [5, 6] = appS (newS 2) 0 [5, 6] ∧ jJ (newS 2) 0 ⟨[], 0, false⟩ [5, 6] = ⟨[5, 6], 1, false⟩ := by
  have h1 : ¬ ((⟨[], 0, false⟩ : JS).dead = true ∨ (newS 2).on = false) := by intro h; rcases h with h | h <;> cases h
  have h2 : ¬ bigB ⟨[], 0, false⟩ [5, 6] := by unfold bigB; simp
  unfold jE jS jJ
  rw [if_neg h1, if_neg h1, if_neg h1, if_neg h2, if_neg h2, if_neg h2, if_pos known_app.1]
  exact ⟨known_app.1, rfl, rfl⟩
theorem New_2 (w : World) : Calls Try.prog 7 #[.int .i64 2] w (Makes w (newS 2)) := New_any 2 (by omega) (by omega) w
theorem Open_0 (gf h : Nat) (s : FS) (w : World) (f : Fl w gf h s) (hon : s.on = true) (hk : 512 ≤ s.ws.length) : Calls Try.prog 20 #[.pointer (some ⟨gf, 0, none⟩), .int .i64 0] w (Opens w gf 0 s.ws) := Open_in gf h s 0 w f hon hk
set_option maxRecDepth 10000 in
theorem known_any (w : World) : Calls Try.prog 6 #[] w fun e w' => e = .returned (.bool true) ∧ Keeps [] w w' := by
  go_enter Try.func6, Try.ntmps6
  go_wp2_with fail
  refine (New_2 w).mono ?_
  rintro e w1 ⟨g, h, rfl, f1, k1, hg, hh⟩
  have l1 := f1.lt
  have l2 := f1.lt2
  go_wp2_with fail
  refine (Open_0 g h _ w1 f1 rfl (by rw [new_len]; omega)).mono ?_
  rintro e w2 ⟨gj, hj, rfl, j2, k2, hgj, hhj⟩
  rw [new_opJ (by omega)] at j2
  have f2 := k2.fl f1 (by simp) (by simp)
  have k02 : Keeps [] w w2 := k1.trans k2 (by simp)
  have lj := j2.lt
  have hs2 := k2.size
  clear f1 k1 k2
  go_wp2_with fail
  refine (Last_any gj hj g 0 _ _ w2 j2).mono ?_
  rintro e w3 ⟨A3, n3, c3, rfl, ho3, hA3, k3⟩
  have f3 := k3.fl f2 (by simp) (by simp)
  have k03 : Keeps [] w w3 := k02.trans k3 (by simp)
  have hs3 := k3.size
  go_wp2_with fail
  have j3 := k3.jr j2 (by simp) (by simp)
  have r4 : Row (w3.alloc (.cells #[.int .u32 5, .int .u32 6] 37)) (w3.heap.size + 1) (some ⟨w3.heap.size, 0, none⟩) 2 2 (cs32 [5, 6]) := Row.two w3 _ _ _
  have k34 : Keeps [] w3 (w3.alloc (.cells #[.int .u32 5, .int .u32 6] 37)) := (Keeps.refl _ _).alloc _
  have hz4 : (w3.alloc (.cells #[.int .u32 5, .int .u32 6] 37)).heap.size = w3.heap.size + 1 := by simp
  generalize w3.alloc (.cells #[.int .u32 5, .int .u32 6] 37) = w4 at r4 k34 hz4 ⊢
  have f4 := k34.fl f3 (by simp) (by simp)
  have j4 := k34.jr j3 (by simp) (by simp)
  have k04 : Keeps [] w w4 := k03.trans k34 (by simp)
  obtain ⟨q1, q2, q3⟩ := known_j
  have hlt3 : g < w3.heap.size ∧ h < w3.heap.size ∧ gj < w3.heap.size := by omega
  refine (Append_any gj hj g h 0 2 2 _ [5, 6] _ (newS 2) w4 j4 (by omega) (by omega) (by omega) (by omega) f4 (r4.more (by omega)) (fun a ha => by obtain rfl := Option.some.inj ha; simp; omega) (by rw [new_len]; omega) (Nat.zero_le _)).mono ?_
  rw [q1, q2, q3]
  rintro e w5 ⟨rfl, f5, k5, hj5, hhj5, j5⟩
  have k05 : Keeps [] w w5 := k04.trans k5 (by simp; omega)
  have hs5 := k5.size
  clear f2 f3 f4 j2 j3 j4 k02 k03 k04 k3 k34 r4 q1 q2 q3 k5 ho3 hA3
  go_wp2_with fail
  refine (Last_any gj hj5 g 0 _ _ w5 j5).mono ?_
  rintro e w6 ⟨A6, n6, c6, rfl, ho6, hA6, k6⟩
  have f6 := k6.fl f5 (by simp) (by simp)
  have k06 : Keeps [] w w6 := k05.trans k6 (by simp)
  clear f5 j5 k05 k6
  go_wp2_with fail
  refine (Words_any g h _ w6 f6).mono ?_
  rintro e w7 ⟨x7, c7, rfl, ho7, k7, hx7⟩
  have k07 : Keeps [] w w7 := k06.trans k7 (by simp)
  have ho67 := k7.own ho6 (by simp)
  obtain ⟨_, _, p3, p4, p5⟩ := known_app
  rw [p3] at ho7 ⊢
  have hl1 : 1 < (appS (newS 2) 0 [5, 6]).ws.length := by rw [p3]; omega
  have hl5 : 5 < (appS (newS 2) 0 [5, 6]).ws.length := by rw [p3]; omega
  have y1 := (Row.of_own ho7).get (j := 1) (by omega)
  have y5 := (Row.of_own ho7).get (j := 5) (by omega)
  have e1 : (appS (newS 2) 0 [5, 6]).ws[1] = 2 := by rw [List.getElem?_eq_getElem hl1] at p4; exact Option.some.inj p4
  have e5 : (appS (newS 2) 0 [5, 6]).ws[5] = 0 := by rw [List.getElem?_eq_getElem hl5] at p5; exact Option.some.inj p5
  have z1 : ∀ o, (w7.alloc o).cell? ⟨x7, 1, none⟩ = some (.int .u32 2) := fun o => by
    obtain ⟨b, off, u, hb, _, hu, hc⟩ := ((Row.of_own ho7).alloc (Nat.le_refl _) o).get (j := 1) (by omega)
    cases hb
    rw [cs32_at hl1, e1] at hu
    rw [Nat.zero_add] at hc
    rw [hc, ← hu]; rfl
  have z5 : ∀ o, (w7.alloc o).cell? ⟨x7, 5, none⟩ = some (.int .u32 0) := fun o => by
    obtain ⟨b, off, u, hb, _, hu, hc⟩ := ((Row.of_own ho7).alloc (Nat.le_refl _) o).get (j := 5) (by omega)
    cases hb
    rw [cs32_at hl5, e5] at hu
    rw [Nat.zero_add] at hc
    rw [hc, ← hu]; rfl
  have HO := hide (And.intro ho67 k07)
  clear y1 y5 e1 e5 p3 p4 p5 ho7 ho6 ho67 k06 k07 k7 f6 hl1 hl5
  go_wp2_with fail
  have r8 : Row (w7.alloc (.cells #[.int .u32 5, .int .u32 6] 37)) (w7.heap.size + 1) (some ⟨w7.heap.size, 0, none⟩) 2 2 (cs32 [5, 6]) := Row.two w7 _ _ _
  have r6 := (Row.of_own HO.out.1).alloc (Nat.le_refl _) (.cells #[.int .u32 5, .int .u32 6] 37)
  have k8 : Keeps [] w (w7.alloc (.cells #[.int .u32 5, .int .u32 6] 37)) := HO.out.2.alloc _
  have z1 := z1 (.cells #[.int .u32 5, .int .u32 6] 37)
  have z5 := z5 (.cells #[.int .u32 5, .int .u32 6] 37)
  generalize w7.alloc (.cells #[.int .u32 5, .int .u32 6] 37) = w8 at r8 r6 k8 z1 z5 ⊢
  refine (Same_any _ _ _ _ _ _ _ _ [5, 6] w8 r6 r8).mono ?_
  rintro e w9 ⟨kk, rfl, rfl⟩
  have K8 := hide (k8.drewN kk)
  have z1 : (w8.drewN kk).cell? ⟨x7, 1, none⟩ = some (.int .u32 2) := z1
  have z5 : (w8.drewN kk).cell? ⟨x7, 5, none⟩ = some (.int .u32 0) := z5
  clear r8 r6 k8
  go_wp2
  go_ret
  exact ⟨rfl, K8.out⟩
end Go.Proofs.Ytahnfkoakaimhaa
