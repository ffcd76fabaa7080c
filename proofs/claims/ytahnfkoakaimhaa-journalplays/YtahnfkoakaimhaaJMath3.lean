/-
  Plain mathematics of a journal: what an Append leaves, whole or torn; what is told behind it. No program stands in this file.
-/
import Derived.Test.YtahnfkoakaimhaaJMath2
namespace Go.Proofs.Ytahnfkoakaimhaa
open Go.RowKit

/-- The second sector is the current one. -/
def secB (ws : List UInt32) (k : Nat) : Bool := decide ((walkW (sect ws k)).num < (walkW (sect ws (k + 1))).num)
def curN (ws : List UInt32) (k : Nat) : Nat := if secB ws k = true then k + 1 else k
def othN (ws : List UInt32) (k : Nat) : Nat := if secB ws k = true then k else k + 1
def curV (ws : List UInt32) (k : Nat) : SV := walkW (sect ws (curN ws k))
def curC (ws : List UInt32) (k : Nat) : Bool := cleanB (sect ws (curN ws k)) (curV ws k).used
theorem cur_ne (ws : List UInt32) (k : Nat) : curN ws k ≠ othN ws k := by unfold curN othN; split <;> omega
theorem cur_in (ws : List UInt32) (k : Nat) : curN ws k = k ∨ curN ws k = k + 1 := by unfold curN; split <;> simp
theorem oth_in (ws : List UInt32) (k : Nat) : othN ws k = k ∨ othN ws k = k + 1 := by unfold othN; split <;> simp
theorem oth_le (ws : List UInt32) (k : Nat) : (walkW (sect ws (othN ws k))).num ≤ (curV ws k).num := by
  unfold curV curN othN
  by_cases h : secB ws k = true
  · rw [if_pos h, if_pos h]; have := of_decide_eq_true h; omega
  · rw [if_neg h, if_neg h]; unfold secB at h; simp at h; exact h
section
variable {ws zs : List UInt32} {k : Nat}
/-- The current sector is no less than it was, the other one is no more. -/
theorem sec_same (h1 : (curV ws k).num ≤ (walkW (sect zs (curN ws k))).num) (h2 : (walkW (sect zs (othN ws k))).num ≤ (walkW (sect ws (othN ws k))).num) : secB zs k = secB ws k := by
  unfold curV curN at h1
  unfold othN at h2
  by_cases h : secB ws k = true
  · rw [if_pos h] at h1 h2
    rw [h]
    have := of_decide_eq_true h
    unfold secB
    rw [decide_eq_true_eq]
    omega
  · rw [if_neg h] at h1 h2
    have hf : secB ws k = false := by simpa using h
    rw [hf]
    have := of_decide_eq_false hf
    unfold secB
    rw [decide_eq_false_iff_not]
    omega
theorem cur_same (h : secB zs k = secB ws k) : curN zs k = curN ws k ∧ othN zs k = othN ws k ∧ curV zs k = walkW (sect zs (curN ws k)) := by
  unfold curV curN othN; rw [h]; exact ⟨rfl, rfl, rfl⟩
/-- The other sector has a greater number. -/
theorem cur_turn (h : (walkW (sect zs (curN ws k))).num < (walkW (sect zs (othN ws k))).num) : curN zs k = othN ws k ∧ othN zs k = curN ws k ∧ curV zs k = walkW (sect zs (othN ws k)) := by
  have key : secB zs k = !secB ws k := by
    unfold curN othN at h
    by_cases hs : secB ws k = true
    · rw [if_pos hs, if_pos hs] at h
      rw [hs]
      unfold secB
      rw [Bool.not_true, decide_eq_false_iff_not]
      omega
    · rw [if_neg hs, if_neg hs] at h
      have hf : secB ws k = false := by simpa using hs
      rw [hf]
      unfold secB
      rw [Bool.not_false, decide_eq_true_eq]
      omega
  unfold curV curN othN
  rw [key]
  rcases secB ws k with _ | _ <;> exact ⟨rfl, rfl, rfl⟩
end
def fitB (ws : List UInt32) (k n : Nat) : Bool := curC ws k && decide ((curV ws k).used + (n + 4) ≤ 256)
def appS (s : FS) (k : Nat) (r : List UInt32) : FS :=
  if fitB s.ws k r.length = true then progsS s (256 * curN s.ws k + (curV s.ws k).used) (laidW ((curV s.ws k).num + 1) r)
  else if eraE s (othN s.ws k) = 0 then progsS (eraS s (othN s.ws k)) (256 * othN s.ws k) (laidW ((curV s.ws k).num + 1) r) else eraS s (othN s.ws k)
def appE (s : FS) (k : Nat) (r : List UInt32) : Int :=
  if fitB s.ws k r.length = true then progsE s (256 * curN s.ws k + (curV s.ws k).used) (laidW ((curV s.ws k).num + 1) r)
  else if eraE s (othN s.ws k) = 0 then progsE (eraS s (othN s.ws k)) (256 * othN s.ws k) (laidW ((curV s.ws k).num + 1) r) else eraE s (othN s.ws k)
/-- Behind an Append that was whole. -/
structure AppOk (s : FS) (k : Nat) (r : List UInt32) (s' : FS) : Prop where
  on : s'.on = true
  cur : curN s'.ws k = if fitB s.ws k r.length = true then curN s.ws k else othN s.ws k
  oth : othN s'.ws k = if fitB s.ws k r.length = true then othN s.ws k else curN s.ws k
  val : curV s'.ws k = ⟨(curV s.ws k).num + 1, r, (if fitB s.ws k r.length = true then (curV s.ws k).used else 0) + (r.length + 4)⟩
  clean : curC s'.ws k = true
  ops : s'.ops = s.ops + (r.length + 4) + (if fitB s.ws k r.length = true then 0 else 1)
/-- Behind one that was torn. -/
structure AppTorn (s : FS) (k : Nat) (r : List UInt32) (s' : FS) : Prop where
  off : s'.on = false
  plan : ∃ j x, s.plan = some (j, x)
  val : ((curV s'.ws k).num = (curV s.ws k).num ∧ (curV s'.ws k).rcd = (curV s.ws k).rcd) ∨ ((curV s'.ws k).num = (curV s.ws k).num + 1 ∧ (curV s'.ws k).rcd = r)
theorem torn_len {l : List UInt32} {i : Nat} {x : UInt32} (h : i < l.length) : (l.take i ++ [x]).length = i + 1 := by simp; omega
theorem app_spec (s : FS) (k : Nat) (r : List UInt32) (hon : s.on = true) (hk : 256 * (k + 2) ≤ s.ws.length) (h1 : 1 ≤ r.length) (h2 : r.length ≤ 64) (hn : (curV s.ws k).num < 2147483647) :
    (∀ j, j ≠ k → j ≠ k + 1 → sect (appS s k r).ws j = sect s.ws j) ∧ (appS s k r).ws.length = s.ws.length ∧ ((appE s k r = 0 ∧ AppOk s k r (appS s k r)) ∨ (appE s k r = 7 ∧ AppTorn s k r (appS s k r))) := by
  obtain ⟨N, hN⟩ : ∃ N, N = (curV s.ws k).num := ⟨_, rfl⟩
  have hok : okR (N + 1) r := ⟨by omega, by omega, h1, h2⟩
  have hL := laidW_len (N + 1) r
  have hne := cur_ne s.ws k
  have hci := cur_in s.ws k
  have hoi := oth_in s.ws k
  have hole := oth_le s.ws k
  by_cases hf : fitB s.ws k r.length = true
  · have hS : appS s k r = progsS s (256 * curN s.ws k + (curV s.ws k).used) (laidW (N + 1) r) := by unfold appS; rw [if_pos hf, hN]
    have hE : appE s k r = progsE s (256 * curN s.ws k + (curV s.ws k).used) (laidW (N + 1) r) := by unfold appE; rw [if_pos hf, hN]
    have hcl : curC s.ws k = true := by unfold fitB at hf; simp at hf; exact hf.1
    have hfit : (curV s.ws k).used + (r.length + 4) ≤ 256 := by unfold fitB at hf; simp at hf; exact hf.2
    have hsec : 256 * (curN s.ws k + 1) ≤ s.ws.length := by rcases hci with h | h <;> rw [h] <;> omega
    have hl := sect_len hsec
    rcases progs_spec (laidW (N + 1) r) s (256 * curN s.ws k + (curV s.ws k).used) hon (by
      intro j hj
      have := clean_at hcl (j := (curV s.ws k).used + j) (by omega) (by omega)
      rw [sect_at, if_pos (by omega)] at this
      rwa [Nat.add_assoc]) with ⟨e1, e2, e3, e4⟩ | ⟨e1, e2, hpl, i, m, hi, e3⟩
    · rw [← hS] at e2 e3 e4
      rw [← hE] at e1
      have hu : (curV s.ws k).used + (laidW (N + 1) r).length ≤ 256 := by omega
      obtain ⟨w1, w2⟩ := walk_put (n := N + 1) hl hcl hok (.inr (by rw [hN]; rfl)) hfit
      have ec : sect (appS s k r).ws (curN s.ws k) = putW (sect s.ws (curN s.ws k)) (curV s.ws k).used (laidW (N + 1) r) := by rw [e3]; exact sect_put hsec hu
      have eo : ∀ j, j ≠ curN s.ws k → sect (appS s k r).ws j = sect s.ws j := fun j hj => by rw [e3]; exact sect_put_other hsec hu hj
      have wc : walkW (sect (appS s k r).ws (curN s.ws k)) = ⟨N + 1, r, (curV s.ws k).used + (r.length + 4)⟩ := by rw [ec]; exact w1
      obtain ⟨c1, c2, c3⟩ := cur_same (sec_same (zs := (appS s k r).ws) (by rw [wc]; show _ ≤ N + 1; omega) (by rw [eo _ hne.symm]; exact Nat.le_refl _))
      refine ⟨fun j hj1 hj2 => eo j (by rcases hci with h | h <;> omega), by rw [e3, putW_len (by omega)], .inl ⟨e1, ⟨e2, ?_, ?_, ?_, ?_, ?_⟩⟩⟩
      · rw [if_pos hf]; exact c1
      · rw [if_pos hf]; exact c2
      · rw [if_pos hf, c3, wc, hN]
      · unfold curC; rw [c1, c3, wc, ec]; exact w2
      · rw [if_pos hf, e4]; omega
    · rw [← hS] at e2 e3
      rw [← hE] at e1
      have hu : (curV s.ws k).used + ((laidW (N + 1) r).take i ++ [pw ones32 ((laidW (N + 1) r).getD i 0) m]).length ≤ 256 := by rw [torn_len hi]; omega
      have w1 := walk_torn (n := N + 1) (i := i) (m := m) hl hcl hok (.inr (by rw [hN]; rfl)) hfit hi
      have ec : sect (appS s k r).ws (curN s.ws k) = putW (sect s.ws (curN s.ws k)) (curV s.ws k).used ((laidW (N + 1) r).take i ++ [pw ones32 ((laidW (N + 1) r).getD i 0) m]) := by rw [e3]; exact sect_put hsec hu
      have eo : ∀ j, j ≠ curN s.ws k → sect (appS s k r).ws j = sect s.ws j := fun j hj => by rw [e3]; exact sect_put_other hsec hu hj
      refine ⟨fun j hj1 hj2 => eo j (by rcases hci with h | h <;> omega), by rw [e3, putW_len (by omega)], .inr ⟨e1, ⟨e2, hpl, ?_⟩⟩⟩
      have ec2 : walkW (sect (appS s k r).ws (curN s.ws k)) = curV s.ws k ∨ walkW (sect (appS s k r).ws (curN s.ws k)) = ⟨N + 1, r, (curV s.ws k).used + (r.length + 4)⟩ := by rw [ec]; exact w1
      have hge : (curV s.ws k).num ≤ (walkW (sect (appS s k r).ws (curN s.ws k))).num := by
        rcases ec2 with h | h
        · rw [h]; exact Nat.le_refl _
        · rw [h]; show _ ≤ N + 1; omega
      obtain ⟨c1, c2, c3⟩ := cur_same (sec_same (zs := (appS s k r).ws) hge (by rw [eo _ hne.symm]; exact Nat.le_refl _))
      rw [c3]
      rcases ec2 with h | h
      · left; rw [h]; exact ⟨rfl, rfl⟩
      · right; rw [h, hN]; exact ⟨rfl, rfl⟩
  · have hsec : 256 * (othN s.ws k + 1) ≤ s.ws.length := by rcases hoi with h | h <;> rw [h] <;> omega
    have hre : refE s.on (othN s.ws k : Int) (s.ws.length / 256) = 0 := by unfold refE; rw [if_pos hon, if_pos (by omega)]
    have hcu : ∀ m, sect (eraW s.ws (256 * othN s.ws k) m) (curN s.ws k) = sect s.ws (curN s.ws k) := fun m => era_other _ _ _ _ hne
    rcases plan_cases s.plan with ⟨x, hx⟩ | hp
    · have e1 : eraE s (othN s.ws k) = 7 := by unfold eraE; rw [if_pos hre, hx]; rfl
      have e2 : eraS s (othN s.ws k) = ⟨eraW s.ws (256 * othN s.ws k) x, false, s.ops, none⟩ := by
        unfold eraS; rw [if_pos hre, opS_yes hx, Int.toNat_natCast]
      have hS : appS s k r = ⟨eraW s.ws (256 * othN s.ws k) x, false, s.ops, none⟩ := by unfold appS; rw [if_neg hf, if_neg (by rw [e1]; decide), e2]
      have hE : appE s k r = 7 := by unfold appE; rw [if_neg hf, if_neg (by rw [e1]; decide), e1]
      rw [hS]
      refine ⟨fun j hj1 hj2 => era_other _ _ _ _ (by rcases hoi with h | h <;> omega), eraW_len _ _ _, .inr ⟨hE, ⟨rfl, ⟨0, x, hx⟩, .inl ?_⟩⟩⟩
      have ho : (walkW (sect (eraW s.ws (256 * othN s.ws k) x) (othN s.ws k))).num ≤ (walkW (sect s.ws (othN s.ws k))).num := by
        by_cases h0 : x.toNat % 257 = 0
        · have : sect (eraW s.ws (256 * othN s.ws k) x) (othN s.ws k) = sect s.ws (othN s.ws k) := by
            apply List.ext_getElem?; intro i; rw [era_at _ _ _ _ hsec, if_neg (by omega)]
          rw [this]; exact Nat.le_refl _
        · rw [walk_erased (.inl (by rw [era_at _ _ _ _ hsec, if_pos (by omega)]))]; exact Nat.zero_le _
      obtain ⟨c1, c2, c3⟩ := cur_same (sec_same (zs := eraW s.ws (256 * othN s.ws k) x) (by rw [hcu]; exact Nat.le_refl _) ho)
      show (curV (eraW s.ws (256 * othN s.ws k) x) k).num = _ ∧ (curV (eraW s.ws (256 * othN s.ws k) x) k).rcd = _
      rw [c3, hcu]
      exact ⟨rfl, rfl⟩
    · have e1 : eraE s (othN s.ws k) = 0 := by unfold eraE; rw [if_pos hre, hp]
      have e2 : eraS s (othN s.ws k) = ⟨eraW s.ws (256 * othN s.ws k) s256, true, s.ops + 1, decP s.plan⟩ := by
        unfold eraS; rw [if_pos hre, opS_no hp, Int.toNat_natCast, hon]
      obtain ⟨zs, hz⟩ : ∃ zs, zs = eraW s.ws (256 * othN s.ws k) s256 := ⟨_, rfl⟩
      have hzl : zs.length = s.ws.length := by rw [hz]; exact eraW_len _ _ _
      have hzo : ∀ i, i < 256 → (sect zs (othN s.ws k))[i]? = some ones32 := by
        intro i hi; rw [hz, era_at _ _ _ _ hsec, s256_toNat, if_pos (by omega)]
      have hzc : ∀ j, j ≠ othN s.ws k → sect zs j = sect s.ws j := fun j hj => by rw [hz]; exact era_other _ _ _ _ hj
      rw [← hz] at e2
      have hS : appS s k r = progsS ⟨zs, true, s.ops + 1, decP s.plan⟩ (256 * othN s.ws k) (laidW (N + 1) r) := by unfold appS; rw [if_neg hf, if_pos e1, e2, hN]
      have hE : appE s k r = progsE ⟨zs, true, s.ops + 1, decP s.plan⟩ (256 * othN s.ws k) (laidW (N + 1) r) := by unfold appE; rw [if_neg hf, if_pos e1, e2, hN]
      have hsz : 256 * (othN s.ws k + 1) ≤ zs.length := by omega
      have hl := sect_len hsz
      have hw0 : walkW (sect zs (othN s.ws k)) = sv0 := walk_erased (.inl (hzo 0 (by omega)))
      have hu0 : (walkW (sect zs (othN s.ws k))).used = 0 := by rw [hw0]; rfl
      have hcl : cleanB (sect zs (othN s.ws k)) (walkW (sect zs (othN s.ws k))).used = true := by
        rw [hu0]; exact clean_of (fun j _ hj => hzo j (by omega))
      have hnum : (walkW (sect zs (othN s.ws k))).num = 0 ∨ N + 1 = (walkW (sect zs (othN s.ws k))).num + 1 := .inl (by rw [hw0]; rfl)
      have hfit : (walkW (sect zs (othN s.ws k))).used + (r.length + 4) ≤ 256 := by rw [hu0]; omega
      rcases progs_spec (laidW (N + 1) r) ⟨zs, true, s.ops + 1, decP s.plan⟩ (256 * othN s.ws k) rfl (by
        intro j hj
        have := hzo j (by omega)
        rwa [sect_at, if_pos (by omega)] at this) with ⟨q1, q2, q3, q4⟩ | ⟨q1, q2, hpl, i, m, hi, q3⟩
      · rw [← hS] at q2 q3 q4
        rw [← hE] at q1
        obtain ⟨w1, w2⟩ := walk_put (n := N + 1) hl hcl hok hnum hfit
        rw [hu0, Nat.zero_add] at w1 w2
        have hu : 0 + (laidW (N + 1) r).length ≤ 256 := by omega
        have q3' : (appS s k r).ws = putW zs (256 * othN s.ws k + 0) (laidW (N + 1) r) := q3
        have ec : sect (appS s k r).ws (othN s.ws k) = putW (sect zs (othN s.ws k)) 0 (laidW (N + 1) r) := by rw [q3']; exact sect_put hsz hu
        have eo : ∀ j, j ≠ othN s.ws k → sect (appS s k r).ws j = sect s.ws j := fun j hj => by rw [q3', sect_put_other hsz hu hj]; exact hzc j hj
        have wc : walkW (sect (appS s k r).ws (othN s.ws k)) = ⟨N + 1, r, r.length + 4⟩ := by rw [ec]; exact w1
        obtain ⟨c1, c2, c3⟩ := cur_turn (ws := s.ws) (zs := (appS s k r).ws) (k := k) (by rw [wc, eo _ hne]; show (curV s.ws k).num < N + 1; omega)
        refine ⟨fun j hj1 hj2 => eo j (by rcases hoi with h | h <;> omega), by rw [q3', putW_len (by omega), hzl], .inl ⟨q1, ⟨q2, ?_, ?_, ?_, ?_, ?_⟩⟩⟩
        · rw [if_neg hf]; exact c1
        · rw [if_neg hf]; exact c2
        · rw [if_neg hf, c3, wc, hN, Nat.zero_add]
        · unfold curC; rw [c1, c3, wc, ec]; exact w2
        · rw [if_neg hf, q4]; show s.ops + 1 + (laidW (N + 1) r).length = _; omega
      · rw [← hS] at q2 q3
        rw [← hE] at q1
        have w1 := walk_torn (n := N + 1) (i := i) (m := m) hl hcl hok hnum hfit hi
        rw [hu0] at w1
        have hu : 0 + ((laidW (N + 1) r).take i ++ [pw ones32 ((laidW (N + 1) r).getD i 0) m]).length ≤ 256 := by rw [torn_len hi]; omega
        have q3' : (appS s k r).ws = putW zs (256 * othN s.ws k + 0) ((laidW (N + 1) r).take i ++ [pw ones32 ((laidW (N + 1) r).getD i 0) m]) := q3
        have ec : sect (appS s k r).ws (othN s.ws k) = putW (sect zs (othN s.ws k)) 0 ((laidW (N + 1) r).take i ++ [pw ones32 ((laidW (N + 1) r).getD i 0) m]) := by rw [q3']; exact sect_put hsz hu
        have eo : ∀ j, j ≠ othN s.ws k → sect (appS s k r).ws j = sect s.ws j := fun j hj => by rw [q3', sect_put_other hsz hu hj]; exact hzc j hj
        rw [← ec] at w1
        refine ⟨fun j hj1 hj2 => eo j (by rcases hoi with h | h <;> omega), by rw [q3', putW_len (by omega), hzl], .inr ⟨q1, ⟨q2, ?_, ?_⟩⟩⟩
        · obtain ⟨j, y, hy⟩ := hpl
          have hy2 : decP s.plan = some (j, y) := hy
          rcases hq : s.plan with _ | ⟨k2, x2⟩
          · rw [hq] at hy2; cases hy2
          · exact ⟨k2, x2, rfl⟩
        · rcases w1 with w1 | w1
          · rw [hw0] at w1
            obtain ⟨c1, c2, c3⟩ := cur_same (sec_same (ws := s.ws) (zs := (appS s k r).ws) (k := k) (by rw [eo _ hne]; exact Nat.le_refl _) (by rw [w1]; exact Nat.zero_le _))
            left
            rw [c3, eo _ hne]
            exact ⟨rfl, rfl⟩
          · obtain ⟨c1, c2, c3⟩ := cur_turn (ws := s.ws) (zs := (appS s k r).ws) (k := k) (by rw [w1, eo _ hne]; show (curV s.ws k).num < N + 1; omega)
            right
            rw [c3, w1, hN]
            exact ⟨rfl, rfl⟩
end Go.Proofs.Ytahnfkoakaimhaa
