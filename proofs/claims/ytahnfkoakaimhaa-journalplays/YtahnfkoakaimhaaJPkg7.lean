/-
  Contracts of package journal: store, Append.
-/
import Derived.Test.YtahnfkoakaimhaaJPkg6
namespace Go.Proofs.Ytahnfkoakaimhaa
open Go.RowKit
set_option maxHeartbeats 2000000

theorem gives_block {w : World} {A : Option Addr} {n c : Nat} {xs : List Value} {w' : World} {e : TypeId} (h : w'.ownsRow w.heap.size e 1 (.slice A n c) n xs) {S : List Nat} (hS : ∀ i ∈ S, i < w.heap.size) : ∀ a, A = some a → a.block ∉ S := by
  intro a ha hm
  rcases own_addr h with h0 | ⟨g, h0, h1, _⟩
  · rw [h0] at ha; cases ha
  · rw [h0] at ha; obtain rfl := Option.some.inj ha; have := hS _ hm; simp at this; omega
theorem store_not (gj gf hf cur oth num used n c An Ac : Nat) (A A0 : Option Addr) (cl dead : Bool) (r : List UInt32) (s : FS) (w : World) (hb : Blk w gj 66 (jrC gf cur oth A0 An Ac num used cl dead)) (h1 : gj ≠ gf) (h2 : gj ≠ hf) (f : Fl w gf hf s)
    (hr : Row w w.heap.size A n c (cs32 r)) (hA : ∀ a, A = some a → a.block ∉ [gj, gf, hf])
    (hoth : oth ≤ 15) (hn1 : 1 ≤ n) (hn2 : n ≤ 64) (hnum : num ≤ 2147483646) (hused : used ≤ 256) (hops : s.ops ≤ 1152921504606846976) (hfit : (cl && decide (used + (n + 4) ≤ 256)) = false)
    (S' : FS) (Q' : Int) (hS : Hid (S' = if eraE s oth = 0 then progsS (eraS s oth) (256 * oth) (laidW (num + 1) r) else eraS s oth)) (hQ : Hid (Q' = if eraE s oth = 0 then progsE (eraS s oth) (256 * oth) (laidW (num + 1) r) else eraE s oth)) :
    Calls Try.prog 28 #[.pointer (some ⟨gj, 0, none⟩), .slice A n c] w
      (Stores w gj gf hf S' Q' (jrC gf cur oth A0 An Ac num used cl dead) (fun h c => jrC gf oth cur (some ⟨h, 0, none⟩) r.length c (num + 1) (n + 4) true dead) r) := by
  have x4 : w.cell? ⟨gj, 4, none⟩ = some (.int .u32 (num : Int)) := hb.cell (j := 4) rfl
  have hm : IntKind.u32.wrap ((num : Int) + 1) = ((num + 1 : Nat) : Int) := by simp only [IntKind.wrap, IntKind.bits, IntKind.signed]; simp; omega
  obtain ⟨m1, hm1, HM⟩ : ∃ m1 : Nat, IntKind.u32.wrap ((num : Int) + 1) = (m1 : Int) ∧ Hid (m1 = num + 1) := ⟨num + 1, hm, rfl⟩
  have hln := hr.len
  rw [cs32_len] at hln
  have HL := hide hln
  have hgl := hb.lt
  have hgf := f.lt
  have hhf := f.lt2
  clear hm hln
  have m1b : m1 ≤ 2147483648 := by have := HM.out; omega
  have HS := hide (stored_any w.heap.size A n c m1 r w hr (Nat.le_refl _) (by omega) m1b)
  have HB := hide hb
  have HF := hide f
  have HR := hide (And.intro hr hA)
  have HN := hide (And.intro hnum m1b)
  clear hb f hr hA hnum m1b
  go_enter Try.func28, Try.ntmps28
  go_wp2_with fail
  refine HS.out.mono ?_
  rintro e w1 ⟨A5, n5, c5, rfl, ho5, hb5⟩
  have hl5 := own32_len ho5
  rw [laidW_len] at hl5
  have hn5 : n5 = n + 4 := by have := HL.out; omega
  have hbs := hb5.size
  have k1 : Keeps [] w w1 := Keeps.of_below hb5
  have b1 := k1.blk HB.out (by simp)
  have f1 := k1.fl HF.out (by simp) (by simp)
  have r1 := k1.rowAt HR.out.1 (Nat.le_refl _) (by simp)
  have r5 := Row.of_own ho5
  have a5 := gives_block ho5 (S := [gj, gf, hf]) (by simp; omega)
  have y5 : w1.cell? ⟨gj, 5, none⟩ = some (.int .i64 (used : Int)) := b1.cell (j := 5) rfl
  have y6 : w1.cell? ⟨gj, 6, none⟩ = some (.bool cl) := b1.cell (j := 6) rfl
  have hP := storeInOther_any gj gf hf cur oth num used n c n5 c5 An Ac A A5 A0 cl dead r (laidW m1 r) s w1 b1 h1 h2 f1 (r1.more hbs) HR.out.2 r5 a5 hoth hn1 hn2 hn5 HN.out.1 hops
  rw [HM.out, ← hS.out, ← hQ.out] at hP
  have HP := hide hP
  clear hP
  have HK := hide k1
  have HN5 := hide hn5
  have key : (cl = false) ∨ (cl = true ∧ decide ((256 : Int) < (used : Int) + (n5 : Int)) = true) := by
    rcases cl with _ | _
    · exact .inl rfl
    · right; refine ⟨rfl, ?_⟩; simp at hfit ⊢; omega
  have hn5b : n5 ≤ 70 := by omega
  clear b1 f1 r1 r5 a5 k1 ho5 hb5 hl5 hn5 hfit HB HF
  rcases key with rfl | ⟨rfl, e1⟩
  all_goals
    go_wp2_with fail
    refine HP.out.mono ?_
    rintro e w6 ⟨rfl, f6, k6, h6⟩
    go_wp2
    go_ret
    refine ⟨rfl, f6, (HK.out.more (by simp)).trans k6 (by simp), ?_⟩
    rcases h6 with ⟨q0, h, c, hh, ho, hb⟩ | h6
    · exact .inl ⟨q0, h, c, by omega, ho, hb⟩
    · exact .inr h6
theorem store_fit (gj gf hf cur oth num used n c An Ac : Nat) (A A0 : Option Addr) (dead : Bool) (r : List UInt32) (s : FS) (w : World) (hb : Blk w gj 66 (jrC gf cur oth A0 An Ac num used true dead)) (h1 : gj ≠ gf) (h2 : gj ≠ hf) (f : Fl w gf hf s)
    (hr : Row w w.heap.size A n c (cs32 r)) (hA : ∀ a, A = some a → a.block ∉ [gj, gf, hf])
    (hcur : cur ≤ 15) (hn1 : 1 ≤ n) (hn2 : n ≤ 64) (hnum : num ≤ 2147483646) (hused : used ≤ 256) (hops : s.ops ≤ 1152921504606846976) (hfit : used + (n + 4) ≤ 256) :
    Calls Try.prog 28 #[.pointer (some ⟨gj, 0, none⟩), .slice A n c] w
      (Stores w gj gf hf (progsS s (256 * cur + used) (laidW (num + 1) r)) (progsE s (256 * cur + used) (laidW (num + 1) r)) (jrC gf cur oth A0 An Ac num used true dead) (fun h c => jrC gf cur oth (some ⟨h, 0, none⟩) r.length c (num + 1) (used + (n + 4)) true dead) r) := by
  have x4 : w.cell? ⟨gj, 4, none⟩ = some (.int .u32 (num : Int)) := hb.cell (j := 4) rfl
  have hm : IntKind.u32.wrap ((num : Int) + 1) = ((num + 1 : Nat) : Int) := by simp only [IntKind.wrap, IntKind.bits, IntKind.signed]; simp; omega
  obtain ⟨m1, hm1, HM⟩ : ∃ m1 : Nat, IntKind.u32.wrap ((num : Int) + 1) = (m1 : Int) ∧ Hid (m1 = num + 1) := ⟨num + 1, hm, rfl⟩
  have hln := hr.len
  rw [cs32_len] at hln
  have HL := hide hln
  have hgl := hb.lt
  have hgf := f.lt
  have hhf := f.lt2
  clear hm hln
  have m1b : m1 ≤ 2147483648 := by have := HM.out; omega
  have HS := hide (stored_any w.heap.size A n c m1 r w hr (Nat.le_refl _) (by omega) m1b)
  have HB := hide hb
  have HF := hide f
  have HR := hide (And.intro hr hA)
  have HN := hide (And.intro hnum m1b)
  clear hb f hr hA hnum m1b
  go_enter Try.func28, Try.ntmps28
  go_wp2_with fail
  refine HS.out.mono ?_
  rintro e w1 ⟨A5, n5, c5, rfl, ho5, hb5⟩
  have hl5 := own32_len ho5
  rw [laidW_len] at hl5
  have hn5 : n5 = n + 4 := by have := HL.out; omega
  have hbs := hb5.size
  have k1 : Keeps [] w w1 := Keeps.of_below hb5
  have b1 := k1.blk HB.out (by simp)
  have f1 := k1.fl HF.out (by simp) (by simp)
  have r1 := (k1.rowAt HR.out.1 (Nat.le_refl _) (by simp)).more hbs
  have r5 := Row.of_own ho5
  have a5 := gives_block ho5 (S := [gj, gf, hf]) (by simp; omega)
  have y1 : w1.cell? ⟨gj, 1, none⟩ = some (.int .i64 (cur : Int)) := b1.cell (j := 1) rfl
  have y5 : w1.cell? ⟨gj, 5, none⟩ = some (.int .i64 (used : Int)) := b1.cell (j := 5) rfl
  have y6 : w1.cell? ⟨gj, 6, none⟩ = some (.bool true) := b1.cell (j := 6) rfl
  have e1 : decide ((256 : Int) < (used : Int) + (n5 : Int)) = false := by simp; omega
  have hn5b : n5 ≤ 70 := by omega
  have HP := hide (program_any gj gf hf cur used n5 c5 A5 (laidW m1 r) s w1.drew _ _ b1.drew h1 h2 (f1.drewN 1) (r5.of_drewN 1) (fun a ha hm => a5 a ha (List.mem_cons_of_mem _ hm)) hcur hused hn5b (by omega))
  have HK := hide k1
  have HN5 := hide hn5
  have HB1 := hide b1
  have HR1 := hide r1
  have HNE := hide (And.intro h1 h2)
  have HFIT := hide hfit
  clear b1 f1 r1 r5 a5 k1 ho5 hb5 hl5 hn5 HB HF h1 h2 hfit
  go_wp2_with fail
  go_region_held3 (fun W : World => W.cell? ⟨gj, 1, none⟩ = some (.int .i64 (cur : Int)) ∧ W.cell? ⟨gj, 5, none⟩ = some (.int .i64 (used : Int))) (first | exact ⟨y1, y5⟩ | exact ⟨y14, y54⟩) (first
    | (go_at_call 41; refine HP.out.mono ?_; rintro e w4 ⟨rfl, f4, k4⟩; have b4 := k4.blk HB1.out.drew (by simp; exact HNE.out); have y14 : w4.cell? ⟨gj, 1, none⟩ = some (.int .i64 (cur : Int)) := b4.cell (j := 1) rfl; have y54 : w4.cell? ⟨gj, 5, none⟩ = some (.int .i64 (used : Int)) := b4.cell (j := 5) rfl))
  have hw4 : Keeps [gf, hf] w1 w4 := (Keeps.refl _ w1).drew.trans k4 (by simp)
  have r4 := hw4.rowAt HR1.out (Nat.le_refl _) (fun a ha hm => HR.out.2 a ha (List.mem_cons_of_mem _ hm))
  obtain ⟨q, hq⟩ : ∃ q, q = progsE s (256 * cur + used) (laidW m1 r) := ⟨_, rfl⟩
  have HQ := hide hq
  rw [← hq]
  clear hq
  by_cases h0 : q = 0
  · subst h0
    have HB4 := hide b4
    have HF4 := hide f4
    have HR4 := hide r4
    clear b4 f4 r4 HP
    go_wp2_with fail
    obtain ⟨b, o, hAd, _, _⟩ := HR.out.1.cells (by omega)
    refine (add_any gj 3 n c An Ac num used n5 A A0 r _ _ w4 HB4.out _ hAd rfl rfl rfl (HR4.out.more hw4.size) hn1 hn2 HN.out.1 hused (by omega)).mono ?_
    rintro e w10 ⟨rfl, k10, h10, c10, hh10, ho10, hb10⟩
    have f10 := k10.fl HF4.out (by simp; exact fun h => HNE.out.1 h.symm) (by simp; exact fun h => HNE.out.2 h.symm)
    go_wp2
    go_ret
    have hs4 := hw4.size
    rw [HM.out] at HQ f10
    refine ⟨ret_int HQ.out, f10, ((HK.out.more (by simp)).trans hw4 (by simp)).trans k10 (by simp), .inl ⟨HQ.out.symm, h10, c10, by omega, ho10, ?_⟩⟩
    have e9 : (used + n5 : Nat) = used + (n + 4) := by have := HN5.out; omega
    rw [e9] at hb10
    exact hb10
  · have d0 : (q != 0) = true := by rw [bne_iff_ne]; exact h0
    have H0 := hide h0
    clear h0
    go_wp2
    go_ret
    rw [HM.out] at HQ f4
    exact ⟨ret_int HQ.out, f4, (HK.out.more (by simp)).trans hw4 (by simp), .inr ⟨by rw [← HQ.out]; exact H0.out, b4⟩⟩
end Go.Proofs.Ytahnfkoakaimhaa
