/-
  Contracts of package vm: place, pop, push, popInto, pass.
-/
import Derived.Test.YtmjelcoljmefeaaVMem
import Derived.Test.YtmjelcoljmefeaaIPkg
import Derived.WalkSmall
namespace Go.Proofs.Ytmjelcoljmefeaa
open Go.RowKit
set_option maxHeartbeats 1000000

theorem head32 (g n c h : Nat) (hh : h ≤ c) (H : Int) (hH : H = h) (W : World) :
    (Instr.slice 25 (.slice (some ⟨g, 0, none⟩) n c) none (some (.int .i64 H)) none).run Try.prog W = .ok (.slice (some ⟨g, 0, none⟩) h c) W := by
  subst hH
  have he : Try.prog.elem 25 = 21 := by simp [Program.elem, Try.underlying25]
  have hs : ∀ W, (Go.sizeOf 21).run Try.prog W = .ok 1 W := by
    intro W
    obtain ⟨i, hi, h1⟩ := Option.map_eq_some_iff.1 sizeN
    simp [sizeOf, typeInfo, hi, h1]
  rw [run_slice_h W 25 _ n c (by rw [he]; exact Try.underlying25) .i64 h (by omega) (by omega), he, hs]
  simp [Result.andThen, Go.sliced, Addr.add]

theorem post_raise {fn : Func} {R : Ending → World → Prop} {a : Act} {w : World} {er : Int} (hd : a.defers = []) (h : R (raiseE er) w) : bodyPost Try.prog fn R (Exit.panic [{ v := .iface 34 (.int .i64 er), recovered := false }]) a w := ⟨hd, h⟩
theorem place_ok (b o n c k : Nat) (w : World) (hk : k < n) (hn : n ≤ 1000) :
    Calls Try.prog 51 #[.slice (some ⟨b, o, none⟩) n c, .int .i32 (k : Int)] w fun e w' => e = .returned (.pointer (some ⟨b, o + k, none⟩)) ∧ w = w' := by
  go_enter Try.func51, Try.ntmps51
  go_wp2
  go_ret
  exact ⟨rfl, rfl⟩
theorem place_in (b o n c k : Nat) (w : World) (hk : k < n) (hn : n ≤ 1000) :
    Calls Try.prog 51 #[.slice (some ⟨b, o, none⟩) n c, .int .i32 (k : Int)] w fun e w' => e = .returned (.pointer (some ⟨b, o + k, none⟩)) ∧ w' = w :=
  (place_ok b o n c k w hk hn).mono fun _ _ h => ⟨h.1, h.2.symm⟩
theorem place_at (b n c k : Nat) (w : World) (hk : k < n) (hn : n ≤ 1000) :
    Calls Try.prog 51 #[.slice (some ⟨b, 0, none⟩) n c, .int .i32 (k : Int)] w fun e w' => e = .returned (.pointer (some ⟨b, k, none⟩)) ∧ w' = w := by
  have := place_ok b 0 n c k w hk hn
  rw [Nat.zero_add] at this
  exact this.mono fun _ _ h => ⟨h.1, h.2.symm⟩
theorem place_bad (A : Option Addr) (n c : Nat) (x : Int) (w : World) (hk : (n : Int) ≤ x) (hx : x ≤ 2147483647) :
    Calls Try.prog 51 #[.slice A n c, .int .i32 x] w fun e w' => e = raiseE 10 ∧ w = w' := by
  go_enter Try.func51, Try.ntmps51
  go_wp2
  exact post_raise rfl ⟨rfl, rfl⟩

section
variable {B : Nat} {P : MP} {l : List (Int × Int)} {old ins : List Int} {tA : Option Addr} {tn tc : Nat} {s : VS} {u : Nat}
theorem pop_bad (w : World) (h : Mac w B P l old ins tA tn tc s u) (hn : s.st.length = 0) :
    Calls Try.prog 56 #[.pointer (some ⟨P.g, 0, none⟩)] w (Fails B 12 w) := by
  obtain rfl : tn = 0 := by have := h.lt; omega
  have c6 := h.m.cell (j := 6) rfl
  have f6 := h.m.frozen 6
  obtain ⟨g, hg⟩ : ∃ g, P.g = g := ⟨_, rfl⟩
  rw [hg] at c6 f6 ⊢
  clear h hn hg
  go_enter Try.func56, Try.ntmps56
  go_wp2
  exact post_raise rfl ⟨rfl, Below.refl _ _⟩
theorem pop_ok (w : World) (h : Mac w B P l old ins tA tn tc s u) (m : Nat) (hn : s.st.length = m + 1) (hm : m ≤ 15) :
    Calls Try.prog 56 #[.pointer (some ⟨P.g, 0, none⟩)] w (GoesV (gd s.st m) B P l old ins ⟨s.p, s.st.take m, s.sl, s.ce, s.ou⟩ u w) := by
  obtain rfl : tn = m + 1 := by have := h.lt; omega
  obtain ⟨q, rfl⟩ := own_some h.tk (by omega)
  have c6 := h.m.cell (j := 6) rfl
  have f6 := h.m.frozen 6
  have ct := h.tk.cellAt m (by omega)
  rw [c32_at (by omega)] at ct
  have hcap := own_cap h.tk
  have hsl := head32 q (m + 1) tc m (by omega) m rfl
  have hmac := h.popped m (by omega)
  have hbl := below_set (Below.refl B w) h.lo.1 (j := 6) (.slice (some ⟨q, 0, none⟩) m tc)
  have hkp : Keeps [P.g] w (w.setCell ⟨P.g, 6, none⟩ (.slice (some ⟨q, 0, none⟩) m tc)) := (Keeps.refl _ _).set (.inl (by simp)) _
  have HM := hide (And.intro hmac (And.intro hkp hbl))
  have HL := hide (show (s.st.take m).length = m by simp; omega)
  clear hmac hbl hkp h hn
  obtain ⟨g, hg⟩ : ∃ g, P.g = g := ⟨_, rfl⟩
  have HZ := hide hg
  obtain ⟨v, hv⟩ : ∃ v, gd s.st m = v := ⟨_, rfl⟩
  rw [hg] at c6 f6 HM ⊢
  rw [hv] at ct ⊢
  clear hg hv
  go_enter Try.func56, Try.ntmps56
  go_wp2
  go_ret
  have hkp := HM.out.2.1
  rw [← HZ.out] at hkp
  refine ⟨rfl, ⟨_, _, by show Mac _ B P l old ins _ (s.st.take m).length _ _ _; rw [HL.out]; exact HM.out.1, ?_⟩, HM.out.2.2⟩
  rw [← HZ.out]
  exact hkp
theorem Mac.m_grown {w : World} (h : Mac w B P l old ins tA tn tc s u) {w' : World} (hg : w.grownBy w' (Value.slice tA tn tc).ownBlock) : Blk w' P.g 62 (macC P tA tn tc s.p u) :=
  (hg.block _ h.m.lt (fun e => (h.nt _ e.symm).1 rfl)).trans h.m
theorem push_bad (w : World) (v : Int) (h : Mac w B P l old ins tA tn tc s u) (hn : s.st.length = 16) :
    Calls Try.prog 50 #[.pointer (some ⟨P.g, 0, none⟩), .int .i32 v] w (Fails B 12 w) := by
  obtain rfl : tn = 16 := by have := h.lt; omega
  have c6 := h.m.cell (j := 6) rfl
  have f6 := h.m.frozen 6
  obtain ⟨g, hg⟩ : ∃ g, P.g = g := ⟨_, rfl⟩
  rw [hg] at c6 f6 ⊢
  clear h hn hg
  go_enter Try.func50, Try.ntmps50
  go_wp2
  exact post_raise rfl ⟨rfl, Below.refl _ _⟩
theorem push_ok (w : World) (v : Int) (h : Mac w B P l old ins tA tn tc s u) (hn : s.st.length < 16) :
    Calls Try.prog 50 #[.pointer (some ⟨P.g, 0, none⟩), .int .i32 v] w (Goes B P l old ins ⟨s.p, s.st ++ [v], s.sl, s.ce, s.ou⟩ u w) := by
  have HN := h.lt
  have hd : ((tn : Int) == 16) = false := by rw [beq_eq_false_iff_ne]; omega
  obtain ⟨i0, hi, h1⟩ := Option.map_eq_some_iff.1 infoN
  simp at h1
  obtain ⟨hz0, hz1, hz2⟩ := h1
  have c6 := h.m.cell (j := 6) rfl
  have f6 := h.m.frozen 6
  have hm1 := h.alloc (.cells #[.int .i32 v] 21)
  have hsz := h.size
  obtain ⟨gg, hgg⟩ : ∃ g, P.g = g := ⟨_, rfl⟩
  have HG := hide hgg
  rw [hgg] at c6 f6 ⊢
  have HI := hide (And.intro hi (And.intro hz0 (And.intro hz1 hz2)))
  have HH := hide (And.intro h hm1)
  have HT : tn < 16 := by omega
  have HS := hide HN
  clear hi hz0 hz1 hz2 h hm1 hgg HN hn
  go_enter Try.func50, Try.ntmps50
  go_wp2_with (at_builtin; refine wpList_append_at rfl (.tmp 15) (.tmp 17) 25 rfl B 21 i0 _ 4 Try.underlying25 HI.out.1 HI.out.2.1 HI.out.2.2.1 HI.out.2.2.2 rfl _ _ _ rfl HH.out.2.tk _ _ _ _ rfl rfl (cell_one _ _ _) (c32_one [v]) (by unfold maxLen; omega) (by omega) (by simp; omega) (by omega) ?_; intro q c3 w3 ho3 hg3 hat; have f3 := (HH.out.2.m_grown hg3).frozen 6; rw [HG.out] at f3; have c3' := (HH.out.2.m_grown hg3).cell (j := 6) rfl; rw [HG.out] at c3')
  have hh := HH.out.2.grown (st' := s.st ++ [v]) (n' := tn + 1) hg3 (by rw [List.length_append, HS.out]; rfl) (by rw [c32_app]; exact ho3) hat
  rw [HG.out] at hh
  have hbl : Below B w w3 := ((Below.refl B w).alloc hsz _).grown hg3 (by simp; omega) fun k hk => (HH.out.2.tk.lt k hk).1
  go_end0
  exact ⟨rfl, ⟨_, _, by show Mac _ B P l old ins _ (s.st ++ [v]).length _ _ _; rw [List.length_append, HS.out]; exact hh⟩, below_set hbl (by have := HH.out.1.lo.1; rw [HG.out] at this; exact this) _⟩
theorem popInto_bad (w : World) (p : Addr) (h : Mac w B P l old ins tA tn tc s u) (hn : s.st.length = 0) :
    Calls Try.prog 52 #[.pointer (some ⟨P.g, 0, none⟩), .pointer (some p)] w (Fails B 12 w) := by
  go_enter Try.func52, Try.ntmps52
  go_wp2_with fail
  refine (pop_bad w h hn).mono ?_
  rintro e w1 ⟨rfl, hb⟩
  exact post_raise rfl ⟨rfl, hb⟩
theorem popSlot_ok (w : World) (k : Nat) (h : Mac w B P l old ins tA tn tc s u) (m : Nat) (hn : s.st.length = m + 1) (hm : m ≤ 15) (hk : k < s.sl.length) :
    Calls Try.prog 52 #[.pointer (some ⟨P.g, 0, none⟩), .pointer (some ⟨P.a, k, none⟩)] w (Goes B P l old ins ⟨s.p, s.st.take m, s.sl.set k (gd s.st m), s.ce, s.ou⟩ u w) := by
  go_enter Try.func52, Try.ntmps52
  go_wp2_with fail
  refine (pop_ok w h m hn hm).mono ?_
  rintro e w1 ⟨rfl, ⟨tA', tc', h1, -⟩, hb⟩
  have f1 := h1.sa.frozen k
  have c1 := h1.sa.cell (c32_at hk)
  have HH := hide (And.intro (h1.slot k (gd s.st m)) (below_set hb h1.lo.2.1 (j := k) (.int .i32 (gd s.st m))))
  clear h1 h hb
  go_wp2
  go_end0
  exact ⟨rfl, ⟨_, _, HH.out.1⟩, HH.out.2⟩
theorem popCell_ok (w : World) (k : Nat) (h : Mac w B P l old ins tA tn tc s u) (m : Nat) (hn : s.st.length = m + 1) (hm : m ≤ 15) (hk : k < s.ce.length) :
    Calls Try.prog 52 #[.pointer (some ⟨P.g, 0, none⟩), .pointer (some ⟨P.b, k, none⟩)] w (Goes B P l old ins ⟨s.p, s.st.take m, s.sl, s.ce.set k (gd s.st m), s.ou⟩ u w) := by
  go_enter Try.func52, Try.ntmps52
  go_wp2_with fail
  refine (pop_ok w h m hn hm).mono ?_
  rintro e w1 ⟨rfl, ⟨tA', tc', h1, -⟩, hb⟩
  have f1 := h1.sb.frozen k
  have c1 := h1.sb.cell (c32_at hk)
  have HH := hide (And.intro (h1.kept k (gd s.st m)) (below_set hb h1.lo.2.2.1 (j := k) (.int .i32 (gd s.st m))))
  clear h1 h hb
  go_wp2
  go_end0
  exact ⟨rfl, ⟨_, _, HH.out.1⟩, HH.out.2⟩
theorem popOut_ok (w : World) (k : Nat) (h : Mac w B P l old ins tA tn tc s u) (m : Nat) (hn : s.st.length = m + 1) (hm : m ≤ 15) (hk : k < s.ou.length) :
    Calls Try.prog 52 #[.pointer (some ⟨P.g, 0, none⟩), .pointer (some ⟨P.c, k, none⟩)] w (Goes B P l old ins ⟨s.p, s.st.take m, s.sl, s.ce, s.ou.set k (gd s.st m)⟩ u w) := by
  go_enter Try.func52, Try.ntmps52
  go_wp2_with fail
  refine (pop_ok w h m hn hm).mono ?_
  rintro e w1 ⟨rfl, ⟨tA', tc', h1, -⟩, hb⟩
  have f1 := h1.sc.frozen k
  have c1 := h1.sc.cell (c32_at hk)
  have HH := hide (And.intro (h1.out k (gd s.st m)) (below_set hb h1.lo.2.2.2 (j := k) (.int .i32 (gd s.st m))))
  clear h1 h hb
  go_wp2
  go_end0
  exact ⟨rfl, ⟨_, _, HH.out.1⟩, HH.out.2⟩
theorem below_dn {w w' : World} {B : Nat} (h : Below B w w') (k : Nat) : Below B w (w'.drewN k) := ⟨h.os, h.tape, h.output, h.size, h.block⟩
theorem pass_ok (w : World) (k : Nat) (h : Mac w B P l old ins tA tn tc s u) (hn : P.cn ≤ 600) (hp : s.p ≤ P.cn) (hk : s.p + k ≤ P.cn) :
    Calls Try.prog 55 #[.pointer (some ⟨P.g, 0, none⟩), .int .i32 (k : Int)] w (Goes B P l old ins ⟨s.p + k, s.st, s.sl, s.ce, s.ou⟩ u w) := by
  have c7 := h.m.cell (j := 7) rfl
  have f7 := h.m.frozen 7
  have c0 := h.m.cell (j := 0) rfl
  have HH := hide (And.intro (h.at_ (s.p + k)) (below_set (Below.refl B w) h.lo.1 (j := 7) (.int .i64 ((s.p + k : Nat) : Int))))
  have HL := hide h.lt
  rw [show ((s.p + k : Nat) : Int) = (s.p : Int) + (k : Int) by omega] at HH
  obtain ⟨g, hg⟩ : ∃ g, P.g = g := ⟨_, rfl⟩
  obtain ⟨n, hn'⟩ : ∃ n, P.cn = n := ⟨_, rfl⟩
  obtain ⟨p, hp'⟩ : ∃ p, s.p = p := ⟨_, rfl⟩
  rw [hg, hp'] at c7
  rw [hg] at f7
  rw [hg, hn'] at c0
  rw [hn'] at hn hp hk
  rw [hp'] at hp hk
  rw [hg, hp'] at HH
  rw [hg, hp']
  have hd : decide ((n : Int) < (p : Int) + (k : Int)) = false := by simp; omega
  clear h hg hn' hp'
  go_enter Try.func55, Try.ntmps55
  go_wp2
  go_quiet (fail)
  go_wp2
  go_end0
  exact ⟨rfl, ⟨_, _, by show Mac _ B P l old ins _ s.st.length _ _ _; rw [HL.out]; exact HH.out.1.drewN _⟩, below_dn HH.out.2 _⟩
theorem pass_bad (w : World) (k : Nat) (h : Mac w B P l old ins tA tn tc s u) (hn : P.cn ≤ 600) (hp : s.p ≤ P.cn) (hk : P.cn < s.p + k) (hk2 : k ≤ 2147483647) :
    Calls Try.prog 55 #[.pointer (some ⟨P.g, 0, none⟩), .int .i32 (k : Int)] w (Fails B 11 w) := by
  have c7 := h.m.cell (j := 7) rfl
  have f7 := h.m.frozen 7
  have c0 := h.m.cell (j := 0) rfl
  have HH := hide (below_set (Below.refl B w) h.lo.1 (j := 7) (.int .i64 ((s.p + k : Nat) : Int)))
  rw [show ((s.p + k : Nat) : Int) = (s.p : Int) + (k : Int) by omega] at HH
  obtain ⟨g, hg⟩ : ∃ g, P.g = g := ⟨_, rfl⟩
  obtain ⟨n, hn'⟩ : ∃ n, P.cn = n := ⟨_, rfl⟩
  obtain ⟨p, hp'⟩ : ∃ p, s.p = p := ⟨_, rfl⟩
  rw [hg, hp'] at c7
  rw [hg] at f7
  rw [hg, hn'] at c0
  rw [hn'] at hn hp hk
  rw [hp'] at hp hk
  rw [hg, hp'] at HH
  rw [hg]
  have hd : decide ((n : Int) < (p : Int) + (k : Int)) = true := by simp; omega
  clear h hg hn' hp'
  go_enter Try.func55, Try.ntmps55
  go_wp2
  go_quiet (fail)
  go_wp2
  exact post_raise rfl ⟨rfl, below_dn HH.out _⟩
end
end Go.Proofs.Ytmjelcoljmefeaa
