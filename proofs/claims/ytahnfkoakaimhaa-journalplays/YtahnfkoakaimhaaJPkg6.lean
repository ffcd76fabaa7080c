/-
  Contracts of package journal: storeInOther, store, Append.
-/
import Derived.Test.YtahnfkoakaimhaaJPkg5
namespace Go.Proofs.Ytahnfkoakaimhaa
open Go.RowKit
set_option maxHeartbeats 2000000

/-- What an attempt to store leaves: the flash; behind OK the new cells, else the old ones. -/
def Stores (w : World) (gj gf hf : Nat) (s' : FS) (q : Int) (old : List Value) (new : Nat → Nat → List Value) (r : List UInt32) (e : Ending) (w' : World) : Prop :=
  e = .returned (.int .i64 q) ∧ Fl w' gf hf s' ∧ Keeps [gj, gf, hf] w w' ∧
    ((q = 0 ∧ ∃ h c, w.heap.size ≤ h ∧ w'.ownsRow 0 37 1 (.slice (some ⟨h, 0, none⟩) r.length c) r.length (cs32 r) ∧ Blk w' gj 66 (new h c)) ∨ (q ≠ 0 ∧ Blk w' gj 66 old))
theorem storeInOther_any (gj gf hf cur oth num used n c n5 c5 An Ac : Nat) (A A5 A0 : Option Addr) (cl dead : Bool) (r l : List UInt32) (s : FS) (w : World) (hb : Blk w gj 66 (jrC gf cur oth A0 An Ac num used cl dead)) (h1 : gj ≠ gf) (h2 : gj ≠ hf) (f : Fl w gf hf s)
    (hr : Row w w.heap.size A n c (cs32 r)) (hA : ∀ a, A = some a → a.block ∉ [gj, gf, hf]) (hr5 : Row w w.heap.size A5 n5 c5 (cs32 l)) (hA5 : ∀ a, A5 = some a → a.block ∉ [gj, gf, hf])
    (hoth : oth ≤ 15) (hn1 : 1 ≤ n) (hn2 : n ≤ 64) (hn5 : n5 = n + 4) (hnum : num ≤ 2147483646) (hops : s.ops ≤ 1152921504606846976) :
    Calls Try.prog 40 #[.pointer (some ⟨gj, 0, none⟩), .slice A n c, .slice A5 n5 c5] w
      (Stores w gj gf hf (if eraE s oth = 0 then progsS (eraS s oth) (256 * oth) l else eraS s oth) (if eraE s oth = 0 then progsE (eraS s oth) (256 * oth) l else eraE s oth) (jrC gf cur oth A0 An Ac num used cl dead) (fun h c => jrC gf oth cur (some ⟨h, 0, none⟩) r.length c (num + 1) (n + 4) true dead) r) := by
  have c0 : w.cell? ⟨gj, 0, none⟩ = some (.pointer (some ⟨gf, 0, none⟩)) := hb.cell (j := 0) rfl
  have c2 : w.cell? ⟨gj, 2, none⟩ = some (.int .i64 (oth : Int)) := hb.cell (j := 2) rfl
  have HB := hide hb
  have HR := hide (And.intro hr hA)
  have HR5 := hide (And.intro hr5 hA5)
  have HNE := hide (And.intro h1 h2)
  have hgl := hb.lt
  have HN5 := hide hn5
  have hn6 : n5 ≤ 70 := by omega
  clear hb hr hA hr5 hA5 h1 h2 hn5
  by_cases he : eraE s oth = 0
  · have HE := hide he
    rw [if_pos he, if_pos he]
    clear he
    go_enter Try.func40, Try.ntmps40
    go_wp2_with fail
    go_region_held3 (fun W : World => W.cell? ⟨gj, 0, none⟩ = some (.pointer (some ⟨gf, 0, none⟩)) ∧ W.cell? ⟨gj, 2, none⟩ = some (.int .i64 (oth : Int))) (first | exact ⟨c0, c2⟩ | exact ⟨c04, c24⟩) (first
      | (go_at_call 54; refine (Erase_any gf hf s _ _ (f.drewN 1) (by omega)).mono ?_; rintro e w4 ⟨rfl, f4, k4⟩; have b4 := k4.blk HB.out.drew (by simp; exact HNE.out); have c04 : w4.cell? ⟨gj, 0, none⟩ = some (.pointer (some ⟨gf, 0, none⟩)) := b4.cell (j := 0) rfl; have c24 : w4.cell? ⟨gj, 2, none⟩ = some (.int .i64 (oth : Int)) := b4.cell (j := 2) rfl; rw [HE.out]))
    have hw4 : Keeps [gf, hf] w w4 := (Keeps.refl _ w).drew.trans k4 (by simp)
    have r5 := hw4.rowAt HR5.out.1 (Nat.le_refl _) (fun a ha hm => HR5.out.2 a ha (List.mem_cons_of_mem _ hm))
    have r1 := hw4.rowAt HR.out.1 (Nat.le_refl _) (fun a ha hm => HR.out.2 a ha (List.mem_cons_of_mem _ hm))
    have HR1 := hide (r1.more hw4.size)
    have o4 : (eraS s oth).ops ≤ 2305843009213693952 := Nat.le_trans (eraS_ops _ _) (by omega)
    have HB4 := hide b4
    have HF4 := hide f4
    have HP := hide (program_any gj gf hf oth 0 n5 c5 A5 l (eraS s oth) w4 _ _ b4 HNE.out.1 HNE.out.2 f4 (r5.more hw4.size) (fun a ha hm => HR5.out.2 a ha (List.mem_cons_of_mem _ hm)) hoth (by omega) hn6 o4)
    clear r5 r1 b4 f4 f c0 c2
    go_wp2_with fail
    refine HP.out.mono ?_
    rintro e w5 ⟨rfl, f5, k5⟩
    have b5 := k5.blk HB4.out (by simp; exact HNE.out)
    have hw5 : Keeps [gf, hf] w w5 := hw4.trans k5 (by simp)
    have r5 := k5.rowAt HR1.out (Nat.le_refl _) (fun a ha hm => HR.out.2 a ha (List.mem_cons_of_mem _ hm))
    obtain ⟨q, hq⟩ : ∃ q, q = progsE (eraS s oth) (256 * oth) l := ⟨_, rfl⟩
    have HQ := hide hq
    rw [show progsE (eraS s oth) (256 * oth + 0) l = q from hq.symm]
    clear hq
    by_cases h0 : q = 0
    · subst h0
      have c1 : w5.cell? ⟨gj, 1, none⟩ = some (.int .i64 (cur : Int)) := b5.cell (j := 1) rfl
      have c2 : w5.cell? ⟨gj, 2, none⟩ = some (.int .i64 (oth : Int)) := b5.cell (j := 2) rfl
      have c5 : w5.cell? ⟨gj, 5, none⟩ = some (.int .i64 (used : Int)) := b5.cell (j := 5) rfl
      have c6 : w5.cell? ⟨gj, 6, none⟩ = some (.bool cl) := b5.cell (j := 6) rfl
      have z1 := b5.frozen 1
      have z2 := b5.frozen 2
      have z5 := b5.frozen 5
      have z6 := b5.frozen 6
      have HB5 := hide b5
      have HF5 := hide f5
      have HR6 := hide r5
      have hw5s : w4.heap.size ≤ w5.heap.size := k5.size
      clear b5 f5 r5 HB4 HF4 HP
      go_wp2_with fail
      go_region
      all_goals
        have b9 : Blk ((((w5.setCell ⟨gj, 1, none⟩ (.int .i64 (oth : Int))).setCell ⟨gj, 2, none⟩ (.int .i64 (cur : Int))).setCell ⟨gj, 5, none⟩ (.int .i64 0)).setCell ⟨gj, 6, none⟩ (.bool true)).drew gj 66 (jrC gf oth cur A0 An Ac num 0 true dead) := ((((HB5.out.set 1 _).set 2 _).set 5 _).set 6 _).drew
        have f9 : Fl ((((w5.setCell ⟨gj, 1, none⟩ (.int .i64 (oth : Int))).setCell ⟨gj, 2, none⟩ (.int .i64 (cur : Int))).setCell ⟨gj, 5, none⟩ (.int .i64 0)).setCell ⟨gj, 6, none⟩ (.bool true)).drew gf hf (progsS (eraS s oth) (256 * oth) l) := ((((((Keeps.refl [gj] w5).set (.inl (by simp)) _).set (.inl (by simp)) _).set (.inl (by simp)) _).set (.inl (by simp)) _).drew).fl HF5.out (by simp; exact fun h => HNE.out.1 h.symm) (by simp; exact fun h => HNE.out.2 h.symm)
        have k9 : Keeps [gj] w5 ((((w5.setCell ⟨gj, 1, none⟩ (.int .i64 (oth : Int))).setCell ⟨gj, 2, none⟩ (.int .i64 (cur : Int))).setCell ⟨gj, 5, none⟩ (.int .i64 0)).setCell ⟨gj, 6, none⟩ (.bool true)).drew := (((((Keeps.refl [gj] w5).set (.inl (by simp)) _).set (.inl (by simp)) _).set (.inl (by simp)) _).set (.inl (by simp)) _).drew
        have r9 := k9.rowAt HR6.out hw5s (fun a ha hm => HR.out.2 a ha (by simp at hm; simp [hm]))
        have B9 := hide b9
        have F9 := hide f9
        have K9 := hide k9
        have R9 := hide r9
        clear b9 f9 k9 r9
        go_wp2_with fail
        generalize ((((w5.setCell ⟨gj, 1, none⟩ (.int .i64 (oth : Int))).setCell ⟨gj, 2, none⟩ (.int .i64 (cur : Int))).setCell ⟨gj, 5, none⟩ (.int .i64 0)).setCell ⟨gj, 6, none⟩ (.bool true)).drew = w9 at B9 F9 K9 R9 ⊢
        obtain ⟨b, o, hAd, _, _⟩ := HR.out.1.cells (by omega)
        refine (add_any gj 3 n c An Ac num 0 n5 A A0 r _ _ w9 B9.out _ hAd rfl rfl rfl (R9.out.more (Nat.le_trans hw5s K9.out.size)) hn1 hn2 hnum (by omega) (by omega)).mono ?_
        rintro e w10 ⟨rfl, k10, h10, c10, hh10, ho10, hb10⟩
        have f10 := k10.fl F9.out (by simp; exact fun h => HNE.out.1 h.symm) (by simp; exact fun h => HNE.out.2 h.symm)
        go_wp2
        go_ret
        have hs := hw5.size
        have hs9 := K9.out.size
        refine ⟨ret_int HQ.out, f10, ((hw5.more (by simp)).trans K9.out (by simp)).trans k10 (by simp), .inl ⟨HQ.out.symm, h10, c10, by omega, ho10, ?_⟩⟩
        have e9 : (0 + n5 : Nat) = n + 4 := by have := HN5.out; omega
        rw [e9] at hb10
        exact hb10
    · have d0 : (q != 0) = true := by rw [bne_iff_ne]; exact h0
      have H0 := hide h0
      clear h0
      go_wp2
      go_ret
      exact ⟨ret_int HQ.out, f5, hw5.more (by simp), .inr ⟨by rw [← HQ.out]; exact H0.out, b5⟩⟩
  · have d0 : (eraE s oth != 0) = true := by rw [bne_iff_ne]; exact he
    rw [if_neg he, if_neg he]
    have HE := hide he
    clear he
    go_enter Try.func40, Try.ntmps40
    go_wp2_with fail
    go_region_held3 (fun W : World => W.cell? ⟨gj, 0, none⟩ = some (.pointer (some ⟨gf, 0, none⟩)) ∧ W.cell? ⟨gj, 2, none⟩ = some (.int .i64 (oth : Int))) (first | exact ⟨c0, c2⟩ | exact ⟨c04, c24⟩) (first
      | (go_at_call 54; refine (Erase_any gf hf s _ _ (f.drewN 1) (by omega)).mono ?_; rintro e w4 ⟨rfl, f4, k4⟩; have b4 := k4.blk HB.out.drew (by simp; exact HNE.out); have c04 : w4.cell? ⟨gj, 0, none⟩ = some (.pointer (some ⟨gf, 0, none⟩)) := b4.cell (j := 0) rfl; have c24 : w4.cell? ⟨gj, 2, none⟩ = some (.int .i64 (oth : Int)) := b4.cell (j := 2) rfl))
    go_wp2
    go_ret
    exact ⟨rfl, f4, ((Keeps.refl _ w).drew.trans k4 (by simp)), .inr ⟨HE.out, b4⟩⟩
end Go.Proofs.Ytahnfkoakaimhaa
