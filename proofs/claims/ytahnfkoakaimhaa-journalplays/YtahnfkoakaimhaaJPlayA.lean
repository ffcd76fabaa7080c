/-
  JournalPlays: both journals tell the same.
-/
import Derived.Test.YtahnfkoakaimhaaJRef7
import Derived.Test.YtahnfkoakaimhaaJPkg9
import Derived.Test.YtahnfkoakaimhaaJOps
namespace Go.Proofs.Ytahnfkoakaimhaa
open Go.RowKit
set_option maxHeartbeats 4000000

def pairC (g g2 : Nat) (jv rv : Option Addr) : List Value := [.pointer (some ⟨g, 0, none⟩), .pointer (some ⟨g2, 0, none⟩), .pointer jv, .pointer rv]
/-- The blocks of a pair are not one another's. -/
def Dis (gp g h g2 h2 gj hj gr hr : Nat) : Prop :=
  (gp ≠ g ∧ gp ≠ h ∧ gp ≠ g2 ∧ gp ≠ h2 ∧ gp ≠ gj ∧ gp ≠ gr) ∧ (gj ≠ g ∧ gj ≠ h ∧ gj ≠ g2 ∧ gj ≠ h2 ∧ gj ≠ gr) ∧ (gr ≠ g ∧ gr ≠ h ∧ gr ≠ g2 ∧ gr ≠ h2) ∧ (g ≠ g2 ∧ g ≠ h2 ∧ h ≠ g2 ∧ h ≠ h2) ∧ (hj ≠ g ∧ hj ≠ h ∧ hj ≠ g2 ∧ hj ≠ h2 ∧ hj ≠ gr) ∧ (hr ≠ g ∧ hr ≠ h ∧ hr ≠ g2 ∧ hr ≠ h2 ∧ hr ≠ gj)
/-- The words of a journal's record lie in a block that is there, or there are none: then any other block will do. -/
theorem Keeps.jr_real {S : List Nat} {w w1 : World} {gj hj gf k gp : Nat} {ws : List UInt32} {j : JS} (q : Keeps S w w1) (h : Jr w gj hj gf k ws j) (h1 : gj ∉ S) (h2 : hj ∉ S) (hp : gj ≠ gp) : ∃ x, Jr w1 gj x gf k ws j ∧ (x = gp ∨ (x = hj ∧ hj < w.heap.size)) := by
  obtain ⟨cur, oth, A, n, c, used, cl, hb, ho, hA, hl⟩ := h.ex
  rcases own_addr ho with h0 | ⟨y, h0, _, hy⟩
  · exact ⟨gp, ⟨h.good, hp, cur, oth, A, n, c, used, cl, q.blk hb h1, q.own ho (fun g e => by rw [h0] at e; cases e), (fun g e => by rw [h0] at e; cases e), hl⟩, .inl rfl⟩
  · have := hA y h0
    subst this
    exact ⟨y, q.jr h h1 h2, .inr ⟨rfl, hy⟩⟩
theorem Keeps.rj_real {S : List Nat} {w w1 : World} {gj hj gf k gp : Nat} {ws : List UInt32} {j : JS} (q : Keeps S w w1) (h : Rj w gj hj gf k ws j) (h1 : gj ∉ S) (h2 : hj ∉ S) (hp : gj ≠ gp) : ∃ x, Rj w1 gj x gf k ws j ∧ (x = gp ∨ (x = hj ∧ hj < w.heap.size)) := by
  obtain ⟨A, n, c, hb, ho, hA, hl⟩ := h.ex
  rcases own_addr ho with h0 | ⟨y, h0, _, hy⟩
  · exact ⟨gp, ⟨h.good, hp, A, n, c, q.blk hb h1, q.own ho (fun g e => by rw [h0] at e; cases e), (fun g e => by rw [h0] at e; cases e), hl⟩, .inl rfl⟩
  · have := hA y h0
    subst this
    exact ⟨y, q.rj h h1 h2, .inr ⟨rfl, hy⟩⟩
/-- Two journals that are one, on two flashes that are one. -/
structure PJ (w : World) (gp g h g2 h2 gj hj gr hr k : Nat) (s : FS) (J : JS) : Prop where
  bp : Blk w gp 32 (pairC g g2 (some ⟨gj, 0, none⟩) (some ⟨gr, 0, none⟩))
  fl : Fl w g h s
  rf : Rf w g2 h2 s
  jr : Jr w gj hj g k s.ws J
  rj : Rj w gr hr g2 k s.ws J
  ds : Dis gp g h g2 h2 gj hj gr hr
  len : s.ws.length = 1024
  kk : k ≤ 2
  lhj : hj < w.heap.size
  lhr : hr < w.heap.size
theorem PJ.keep {w w' : World} {gp g h g2 h2 gj hj gr hr k : Nat} {s : FS} {J : JS} (p : PJ w gp g h g2 h2 gj hj gr hr k s J) (q : Keeps [] w w') : PJ w' gp g h g2 h2 gj hj gr hr k s J :=
  ⟨q.blk p.bp (by simp), q.fl p.fl (by simp) (by simp), q.rf p.rf (by simp) (by simp), q.jr p.jr (by simp) (by simp), q.rj p.rj (by simp) (by simp), p.ds, p.len, p.kk, Nat.lt_of_lt_of_le p.lhj q.size, Nat.lt_of_lt_of_le p.lhr q.size⟩
/-- What opening both leaves. -/
def OpenP (w : World) (gp g h g2 h2 : Nat) (s : FS) (e : Ending) (w' : World) : Prop :=
  e = .returned (.bool true) ∧ Keeps [gp] w w' ∧ ((Fl w' g h s ∧ Rf w' g2 h2 s ∧ ∃ rv, Blk w' gp 32 (pairC g g2 none rv)) ∨ ∃ gj hj gr hr k J, PJ w' gp g h g2 h2 gj hj gr hr k s J ∧ w.heap.size ≤ gj ∧ w.heap.size ≤ gr)
theorem open_no {w w4 : World} {gp g h g2 h2 gr : Nat} {s : FS} {jv rv : Option Addr} (bp : Blk w gp 32 (pairC g g2 jv rv)) (f : Fl w g h s) (r : Rf w g2 h2 s) (h1 : gp ≠ g) (h2' : gp ≠ h) (h3 : gp ≠ g2) (h4 : gp ≠ h2) (k4 : Keeps [] w w4) :
    OpenP w gp g h g2 h2 s (.returned (.bool true)) ((w4.setCell ⟨gp, 2, none⟩ (.pointer none)).setCell ⟨gp, 3, none⟩ (.pointer (some ⟨gr, 0, none⟩))) := by
  have k5 : Keeps [gp] w ((w4.setCell ⟨gp, 2, none⟩ (.pointer none)).setCell ⟨gp, 3, none⟩ (.pointer (some ⟨gr, 0, none⟩))) := ((k4.more (by simp)).set (.inl (by simp)) _).set (.inl (by simp)) _
  exact ⟨rfl, k5, .inl ⟨k5.fl f (by simp; exact fun e => h1 e.symm) (by simp; exact fun e => h2' e.symm), k5.rf r (by simp; exact fun e => h3 e.symm) (by simp; exact fun e => h4 e.symm), _, ((k4.blk bp (by simp)).set 2 _).set 3 _⟩⟩
theorem pair_open (gp g h g2 h2 : Nat) (jv rv : Option Addr) (s : FS) (at_ : Int) (w : World) (bp : Blk w gp 32 (pairC g g2 jv rv)) (f : Fl w g h s) (r : Rf w g2 h2 s) (hlen : s.ws.length = 1024)
    (h1 : gp ≠ g) (h2' : gp ≠ h) (h3 : gp ≠ g2) (h4 : gp ≠ h2) (h5 : g ≠ g2) (h6 : g ≠ h2) (h7 : h ≠ g2) (h8 : h ≠ h2) :
    Calls Try.prog 9 #[.pointer (some ⟨gp, 0, none⟩), .int .i64 at_] w (OpenP w gp g h g2 h2 s) := by
  have x0 : w.cell? ⟨gp, 0, none⟩ = some (.pointer (some ⟨g, 0, none⟩)) := bp.cell (j := 0) rfl
  have x1 : w.cell? ⟨gp, 1, none⟩ = some (.pointer (some ⟨g2, 0, none⟩)) := bp.cell (j := 1) rfl
  have lp := bp.lt
  have l1 := f.lt
  have l2 := f.lt2
  have l3 := r.lt
  have l4 := r.lt2
  rcases hon : s.on with _ | _
  · have HO := hide hon
    have HB := hide (And.intro bp (And.intro f r))
    clear hon bp f r
    go_enter Try.func9, Try.ntmps9
    go_wp2_with (first
      | (go_at_call 20; refine (Open_off g h s at_ _ HB.out.2.1 HO.out).mono ?_; rintro e w3 ⟨rfl, rfl⟩)
      | (go_at_call 21; refine (rOpen_off g2 h2 s at_ _ HB.out.2.2 HO.out).mono ?_; rintro e w4 ⟨gr, rfl, b4, k4, hgr⟩; have bp4 := k4.blk HB.out.1 (by simp); have y2 : w4.cell? ⟨gp, 2, none⟩ = some (.pointer jv) := bp4.cell (j := 2) rfl; have y3 : w4.cell? ⟨gp, 3, none⟩ = some (.pointer rv) := bp4.cell (j := 3) rfl; have z2 := bp4.frozen 2; have z3 := bp4.frozen 3; clear bp4 b4))
    go_ret
    exact open_no HB.out.1 HB.out.2.1 HB.out.2.2 h1 h2' h3 h4 k4
  · by_cases hin : 0 ≤ at_ ∧ at_ + 2 ≤ 4
    · obtain ⟨k, rfl⟩ : ∃ k : Nat, at_ = (k : Int) := ⟨at_.toNat, by omega⟩
      have hk : k ≤ 2 := by omega
      have HO := hide hon
      have HB := hide (And.intro bp (And.intro f r))
      have HL := hide hlen
      clear hon bp f r hin hlen
      go_enter Try.func9, Try.ntmps9
      go_wp2_with (first
        | (go_at_call 20; refine (Open_in g h s k _ HB.out.2.1 HO.out (by rw [HL.out]; omega)).mono ?_; rintro e w3 ⟨gj, hj, rfl, j3, k3, hgj, hhj⟩; have y1 := (k3.blk HB.out.1 (by simp)).cell (j := 1) (v := .pointer (some ⟨g2, 0, none⟩)) rfl)
        | (go_at_call 21; refine (rOpen_in g2 h2 s k _ (k3.rf HB.out.2.2 (by simp) (by simp)) HO.out (by rw [HL.out]; omega)).mono ?_; rintro e w4 ⟨gr, hr, rfl, r4, k4, hgr, hhr⟩; have bp4 := k4.blk (k3.blk HB.out.1 (by simp)) (by simp); have y2 : w4.cell? ⟨gp, 2, none⟩ = some (.pointer jv) := bp4.cell (j := 2) rfl; have y3 : w4.cell? ⟨gp, 3, none⟩ = some (.pointer rv) := bp4.cell (j := 3) rfl; have z2 := bp4.frozen 2; have z3 := bp4.frozen 3; have HP4 := hide bp4; clear bp4))
      go_ret
      have lj := j3.lt
      have lr := r4.lt
      have s3 := k3.size
      have s4 := k4.size
      have k5 : Keeps [gp] w4 ((w4.setCell ⟨gp, 2, none⟩ (.pointer (some ⟨gj, 0, none⟩))).setCell ⟨gp, 3, none⟩ (.pointer (some ⟨gr, 0, none⟩))) := ((Keeps.refl _ _).set (.inl (by simp)) _).set (.inl (by simp)) _
      have k35 : Keeps [gp] w3 _ := (k4.more (by simp)).trans k5 (by simp)
      have k05 : Keeps [gp] w _ := (k3.more (by simp)).trans k35 (by simp)
      obtain ⟨x, j9, hx⟩ := k35.jr_real (gp := gp) j3 (by simp; omega) (by simp; omega) (by omega)
      obtain ⟨y, r9, hy⟩ := k5.rj_real (gp := gp) r4 (by simp; omega) (by simp; omega) (by omega)
      refine ⟨rfl, k05, .inr ⟨gj, x, gr, y, k, _, ⟨(HP4.out.set 2 _).set 3 _, k05.fl HB.out.2.1 (by simp; omega) (by simp; omega), k05.rf HB.out.2.2 (by simp; omega) (by simp; omega), j9, r9, ?_, HL.out, hk, ?_, ?_⟩, hgj, by omega⟩⟩
      · unfold Dis; omega
      · have := k35.size; omega
      · have := k5.size; omega
    · have HO := hide hon
      have HI : Hid (¬ (0 ≤ at_ ∧ at_ + 2 ≤ (s.ws.length / 256 : Nat))) := by rw [hlen]; exact hin
      have HB := hide (And.intro bp (And.intro f r))
      clear hon bp f r hin hlen
      go_enter Try.func9, Try.ntmps9
      go_wp2_with (first
        | (go_at_call 20; refine (Open_out g h s at_ _ HB.out.2.1 HO.out HI.out).mono ?_; rintro e w3 ⟨rfl, rfl⟩)
        | (go_at_call 21; refine (rOpen_out g2 h2 s at_ _ HB.out.2.2 HO.out HI.out).mono ?_; rintro e w4 ⟨gr, rfl, b4, k4, hgr⟩; have bp4 := k4.blk HB.out.1 (by simp); have y2 : w4.cell? ⟨gp, 2, none⟩ = some (.pointer jv) := bp4.cell (j := 2) rfl; have y3 : w4.cell? ⟨gp, 3, none⟩ = some (.pointer rv) := bp4.cell (j := 3) rfl; have z2 := bp4.frozen 2; have z3 := bp4.frozen 3; clear bp4 b4))
      go_ret
      exact open_no HB.out.1 HB.out.2.1 HB.out.2.2 h1 h2' h3 h4 k4
end Go.Proofs.Ytahnfkoakaimhaa
namespace Go.Proofs.Ytahnfkoakaimhaa
open Go.RowKit
set_option maxHeartbeats 4000000

/-- What is held while the two are compared. -/
structure SA (gp g g2 h2 gr k : Nat) (jv : Option Addr) (Ar : Option Addr) (nr cr cw : Nat) (m : UInt32) (J : JS) (s : FS) (on : Bool) (w : World) : Prop where
  bp : Blk w gp 32 (pairC g g2 jv (some ⟨gr, 0, none⟩))
  br : Blk w gr 54 (rjC g2 k Ar nr cr J.num J.dead)
  bf : Blk w g2 62 (rfC h2 cw m s)
  ow : w.ownsRow 0 37 1 (.slice (some ⟨h2, 0, none⟩) s.ws.length cw) s.ws.length (cs32 s.ws)
  so : s.on = on
section
variable {gp g g2 h2 gr k nr cr cw : Nat} {jv Ar : Option Addr} {m : UInt32} {J : JS} {s : FS} {on : Bool} {w w' : World}
theorem SA.p0 (h : SA gp g g2 h2 gr k jv Ar nr cr cw m J s on w) : w.cell? ⟨gp, 0, none⟩ = some (.pointer (some ⟨g, 0, none⟩)) := h.bp.cell (j := 0) rfl
theorem SA.p1 (h : SA gp g g2 h2 gr k jv Ar nr cr cw m J s on w) : w.cell? ⟨gp, 1, none⟩ = some (.pointer (some ⟨g2, 0, none⟩)) := h.bp.cell (j := 1) rfl
theorem SA.p3 (h : SA gp g g2 h2 gr k jv Ar nr cr cw m J s on w) : w.cell? ⟨gp, 3, none⟩ = some (.pointer (some ⟨gr, 0, none⟩)) := h.bp.cell (j := 3) rfl
theorem SA.r3 (h : SA gp g g2 h2 gr k jv Ar nr cr cw m J s on w) : w.cell? ⟨gr, 3, none⟩ = some (.slice Ar nr cr) := h.br.cell (j := 3) rfl
theorem SA.r4 (h : SA gp g g2 h2 gr k jv Ar nr cr cw m J s on w) : w.cell? ⟨gr, 4, none⟩ = some (.int .u32 (J.num : Int)) := h.br.cell (j := 4) rfl
theorem SA.f0 (h : SA gp g g2 h2 gr k jv Ar nr cr cw m J s on w) : w.cell? ⟨g2, 0, none⟩ = some (.slice (some ⟨h2, 0, none⟩) s.ws.length cw) := h.bf.cell (j := 0) rfl
theorem SA.f1 (h : SA gp g g2 h2 gr k jv Ar nr cr cw m J s on w) : w.cell? ⟨g2, 1, none⟩ = some (.bool (!on)) := by rw [← h.so]; exact h.bf.cell (j := 1) rfl
theorem SA.keep (h : SA gp g g2 h2 gr k jv Ar nr cr cw m J s on w) (q : Keeps [] w w') : SA gp g g2 h2 gr k jv Ar nr cr cw m J s on w' :=
  ⟨q.blk h.bp (by simp), q.blk h.br (by simp), q.blk h.bf (by simp), q.own h.ow (by simp), h.so⟩
end
theorem Keeps.of_own {w w1 : World} {A : Option Addr} {n c : Nat} (h : w.grownBy w1 (Value.slice A n c).ownBlock) (B : Nat) (hA : ∀ g, (Value.slice A n c).ownBlock = some g → B ≤ g) : ∃ gx, B ≤ gx ∧ Keeps [gx] w w1 := by
  rcases A with _ | a
  · exact ⟨B, Nat.le_refl _, ⟨h.os, h.tape, h.output, h.size, fun k hk _ => h.block k hk (by simp [Value.ownBlock])⟩⟩
  · exact ⟨a.block, hA _ rfl, ⟨h.os, h.tape, h.output, h.size, fun k hk hS => h.block k hk (fun e => hS (by simp [Value.ownBlock] at e; simp [e]))⟩⟩
set_option maxRecDepth 10000 in
theorem pair_alike (gp g h g2 h2 gj hj gr hr k : Nat) (s : FS) (J : JS) (w : World) (p : PJ w gp g h g2 h2 gj hj gr hr k s J) :
    Calls Try.prog 17 #[.pointer (some ⟨gp, 0, none⟩)] w fun e w' => e = .returned (.bool true) ∧ Keeps [] w w' := by
  have x2 : w.cell? ⟨gp, 2, none⟩ = some (.pointer (some ⟨gj, 0, none⟩)) := p.bp.cell (j := 2) rfl
  have key : decide ((0 : Int) < (J.num : Int)) = decide (0 < J.num) := by
    by_cases hz : 0 < J.num
    · rw [decide_eq_true hz]; simp; omega
    · rw [decide_eq_false hz]; simp; omega
  obtain ⟨mt, e3⟩ : ∃ mt, decide (0 < J.num) = mt := ⟨_, rfl⟩
  have e2 := key.trans e3
  obtain ⟨on, hon⟩ : ∃ on, s.on = on := ⟨_, rfl⟩
  have HON := hide hon
  have HMT := hide e3
  have lp := p.bp.lt
  have lg := p.fl.lt
  have lh := p.fl.lt2
  have lg2 := p.rf.lt
  have lh2 := p.rf.lt2
  have lj := p.jr.lt
  have lr := p.rj.lt
  have lhj := p.lhj
  have lhr := p.lhr
  clear key hon
  go_enter Try.func17, Try.ntmps17
  go_wp2_with fail
  refine (Last_any gj hj g k _ J w p.jr).mono ?_
  rintro e w1 ⟨A5, n5, c5, he5, o1, hA5, k1⟩
  rw [HMT.out] at he5
  subst he5
  go_wp2_with fail
  have k05 : Keeps [] w w1.drew := k1.drew
  have p5 := p.keep k05
  have o5 : w1.drew.ownsRow 0 37 1 (.slice A5 n5 c5) n5 (cs32 J.rcd) := o1
  obtain ⟨Ar, nr, cr, br, orr, hAr, _⟩ := p5.rj.ex
  obtain ⟨cw, m, _, bf, ow⟩ := p5.rf.ex
  have S5 : SA gp g g2 h2 gr k (some ⟨gj, 0, none⟩) Ar nr cr cw m J s on w1.drew := ⟨p5.bp, br, bf, ow, HON.out⟩
  have hne : (on == !on) = false := by cases on <;> rfl
  have hn64 : n5 ≤ 64 := by have h9 := own32_len o5; have h8 := p5.jr.good.hi; omega
  clear o1 k1 br bf ow hAr x2
  refine wp_region_held_drew (S := SA gp g g2 h2 gr k (some ⟨gj, 0, none⟩) Ar nr cr cw m J s on) (by kernel_rfl) S5 (fun hS0 => ?_)
  generalize w1.drew = w5 at k05 p5 o5 orr S5 hS0 ⊢
  refine wpAnyH_take (i := 0) (v := .slice A5 n5 c5) rfl (by kernel_rfl) (by kernel_rfl) (by kernel_rfl) (fun _ _ _ h => h) (Or.inl ⟨by rfl, fun w _ => by go_simp⟩) (by assumption) ?_
  simp only [List.getElem_toArray, List.getElem_cons_zero, Act.put, List.setIfInBounds_toArray, List.set_cons_zero, List.set_cons_succ]
  refine wpAnyH_take (i := 1) (v := .pointer (some ⟨gp, 0, none⟩)) rfl (by kernel_rfl) (by kernel_rfl) (by kernel_rfl) (fun _ _ _ h => h) (Or.inl ⟨by rfl, fun w _ => by go_simp⟩) (by assumption) ?_
  simp only [List.getElem_toArray, List.getElem_cons_zero, List.getElem_cons_succ, Act.put, List.setIfInBounds_toArray, List.set_cons_zero, List.set_cons_succ]
  refine wpAnyH_take (i := 2) (v := .pointer (some ⟨gp, 0, none⟩)) rfl (by kernel_rfl) (by kernel_rfl) (by kernel_rfl) (fun _ _ _ h => h) (Or.inl ⟨by rfl, fun w _ => by go_simp⟩) (by assumption) ?_
  simp only [List.getElem_toArray, List.getElem_cons_zero, List.getElem_cons_succ, Act.put, List.setIfInBounds_toArray, List.set_cons_zero, List.set_cons_succ]
  refine wpAnyH_take (i := 3) (v := .pointer (some ⟨gp, 3, none⟩)) rfl (by kernel_rfl) (by kernel_rfl) (by kernel_rfl) (fun _ _ _ h => h) (Or.inl ⟨by rfl, fun w _ => by go_simp⟩) (by assumption) ?_
  simp only [List.getElem_toArray, List.getElem_cons_zero, List.getElem_cons_succ, Act.put, List.setIfInBounds_toArray, List.set_cons_zero, List.set_cons_succ]
  refine wpAnyH_take (i := 4) (v := .pointer (some ⟨gr, 0, none⟩)) rfl (by kernel_rfl) (by kernel_rfl) (by kernel_rfl) (fun _ _ _ h => h) (Or.inl ⟨by rfl, fun w h => by have h9 := (SA.p3 h); go_simp⟩) (by assumption) ?_
  simp only [List.getElem_toArray, List.getElem_cons_zero, List.getElem_cons_succ, Act.put, List.setIfInBounds_toArray, List.set_cons_zero, List.set_cons_succ]
  refine wpAnyH_take (i := 5) (v := .pointer (some ⟨gr, 0, none⟩)) rfl (by kernel_rfl) (by kernel_rfl) (by kernel_rfl) (fun _ _ _ h => h) (Or.inl ⟨by rfl, fun w _ => by go_simp⟩) (by assumption) ?_
  simp only [List.getElem_toArray, List.getElem_cons_zero, List.getElem_cons_succ, Act.put, List.setIfInBounds_toArray, List.set_cons_zero, List.set_cons_succ]
  refine wpAnyH_take (i := 6) (v := .pointer (some ⟨gr, 3, none⟩)) rfl (by kernel_rfl) (by kernel_rfl) (by kernel_rfl) (fun _ _ _ h => h) (Or.inl ⟨by rfl, fun w _ => by go_simp⟩) (by assumption) ?_
  simp only [List.getElem_toArray, List.getElem_cons_zero, List.getElem_cons_succ, Act.put, List.setIfInBounds_toArray, List.set_cons_zero, List.set_cons_succ]
  refine wpAnyH_take (i := 7) (v := .slice Ar nr cr) rfl (by kernel_rfl) (by kernel_rfl) (by kernel_rfl) (fun _ _ _ h => h) (Or.inl ⟨by rfl, fun w h => by have h9 := (SA.r3 h); go_simp⟩) (by assumption) ?_
  simp only [List.getElem_toArray, List.getElem_cons_zero, List.getElem_cons_succ, Act.put, List.setIfInBounds_toArray, List.set_cons_zero, List.set_cons_succ]
  refine wpAnyH_ready (rs := [8]) (by kernel_rfl) (by simp) ?_
  refine AllReadyH.cons rfl (fun K hKK => ?_) AllReadyH.nil
  go_simp
  refine (Same_any _ _ _ _ _ _ _ _ J.rcd _ (Row.of_own o5) (Row.of_own orr)).mono ?_
  rintro e wz ⟨t6, rfl, rfl⟩
  have k6 : Keeps [] w5 (w5.drewN t6) := (Keeps.refl _ _).drewN _
  have S6 := S5.keep k6
  have p6 := p5.keep k6
  have o6 := k6.own o5 (by simp)
  have or6 := k6.own orr (by simp)
  have k06 := k05.trans k6 (by simp)
  clear o5 orr p5 k05 k6
  generalize w5.drewN t6 = w6 at S6 p6 o6 or6 k06 ⊢
  refine hKK.out _ _ (S6) (fun hS8 => ?_)
  clear hKK
  refine wpAnyH_take (i := 9) (v := .bool false) rfl (by kernel_rfl) (by kernel_rfl) (by kernel_rfl) (fun _ _ _ h => h) (Or.inl ⟨by rfl, fun w _ => by go_simp⟩) (by assumption) ?_
  simp only [List.getElem_toArray, List.getElem_cons_zero, List.getElem_cons_succ, Act.put, List.setIfInBounds_toArray, List.set_cons_zero, List.set_cons_succ]
  refine wpAnyH_take (i := 10) (v := .bool false) rfl (by kernel_rfl) (by kernel_rfl) (by kernel_rfl) (fun _ _ _ h => h) (Or.inl ⟨by rfl, fun w _ => by go_simp⟩) (by assumption) ?_
  simp only [List.getElem_toArray, List.getElem_cons_zero, List.getElem_cons_succ, Act.put, List.setIfInBounds_toArray, List.set_cons_zero, List.set_cons_succ]
  refine wpAnyH_take (i := 11) (v := .int .u32 (J.num : Int)) rfl (by kernel_rfl) (by kernel_rfl) (by kernel_rfl) (fun _ _ _ h => h) (Or.inl ⟨by rfl, fun w _ => by go_simp⟩) (by assumption) ?_
  simp only [List.getElem_toArray, List.getElem_cons_zero, List.getElem_cons_succ, Act.put, List.setIfInBounds_toArray, List.set_cons_zero, List.set_cons_succ]
  refine wpAnyH_take (i := 12) (v := .pointer (some ⟨gp, 0, none⟩)) rfl (by kernel_rfl) (by kernel_rfl) (by kernel_rfl) (fun _ _ _ h => h) (Or.inl ⟨by rfl, fun w _ => by go_simp⟩) (by assumption) ?_
  simp only [List.getElem_toArray, List.getElem_cons_zero, List.getElem_cons_succ, Act.put, List.setIfInBounds_toArray, List.set_cons_zero, List.set_cons_succ]
  refine wpAnyH_take (i := 13) (v := .pointer (some ⟨gp, 0, none⟩)) rfl (by kernel_rfl) (by kernel_rfl) (by kernel_rfl) (fun _ _ _ h => h) (Or.inl ⟨by rfl, fun w _ => by go_simp⟩) (by assumption) ?_
  simp only [List.getElem_toArray, List.getElem_cons_zero, List.getElem_cons_succ, Act.put, List.setIfInBounds_toArray, List.set_cons_zero, List.set_cons_succ]
  refine wpAnyH_take (i := 14) (v := .pointer (some ⟨gp, 3, none⟩)) rfl (by kernel_rfl) (by kernel_rfl) (by kernel_rfl) (fun _ _ _ h => h) (Or.inl ⟨by rfl, fun w _ => by go_simp⟩) (by assumption) ?_
  simp only [List.getElem_toArray, List.getElem_cons_zero, List.getElem_cons_succ, Act.put, List.setIfInBounds_toArray, List.set_cons_zero, List.set_cons_succ]
  refine wpAnyH_take (i := 15) (v := .pointer (some ⟨gr, 0, none⟩)) rfl (by kernel_rfl) (by kernel_rfl) (by kernel_rfl) (fun _ _ _ h => h) (Or.inl ⟨by rfl, fun w h => by have h9 := (SA.p3 h); go_simp⟩) (by assumption) ?_
  simp only [List.getElem_toArray, List.getElem_cons_zero, List.getElem_cons_succ, Act.put, List.setIfInBounds_toArray, List.set_cons_zero, List.set_cons_succ]
  refine wpAnyH_take (i := 16) (v := .pointer (some ⟨gr, 0, none⟩)) rfl (by kernel_rfl) (by kernel_rfl) (by kernel_rfl) (fun _ _ _ h => h) (Or.inl ⟨by rfl, fun w _ => by go_simp⟩) (by assumption) ?_
  simp only [List.getElem_toArray, List.getElem_cons_zero, List.getElem_cons_succ, Act.put, List.setIfInBounds_toArray, List.set_cons_zero, List.set_cons_succ]
  refine wpAnyH_take (i := 17) (v := .pointer (some ⟨gr, 4, none⟩)) rfl (by kernel_rfl) (by kernel_rfl) (by kernel_rfl) (fun _ _ _ h => h) (Or.inl ⟨by rfl, fun w _ => by go_simp⟩) (by assumption) ?_
  simp only [List.getElem_toArray, List.getElem_cons_zero, List.getElem_cons_succ, Act.put, List.setIfInBounds_toArray, List.set_cons_zero, List.set_cons_succ]
  refine wpAnyH_take (i := 18) (v := .int .u32 (J.num : Int)) rfl (by kernel_rfl) (by kernel_rfl) (by kernel_rfl) (fun _ _ _ h => h) (Or.inl ⟨by rfl, fun w h => by have h9 := (SA.r4 h); go_simp⟩) (by assumption) ?_
  simp only [List.getElem_toArray, List.getElem_cons_zero, List.getElem_cons_succ, Act.put, List.setIfInBounds_toArray, List.set_cons_zero, List.set_cons_succ]
  refine wpAnyH_take (i := 19) (v := .bool false) rfl (by kernel_rfl) (by kernel_rfl) (by kernel_rfl) (fun _ _ _ h => h) (Or.inl ⟨by rfl, fun w _ => by go_simp⟩) (by assumption) ?_
  simp only [List.getElem_toArray, List.getElem_cons_zero, List.getElem_cons_succ, Act.put, List.setIfInBounds_toArray, List.set_cons_zero, List.set_cons_succ]
  refine wpAnyH_take (i := 20) (v := .bool false) rfl (by kernel_rfl) (by kernel_rfl) (by kernel_rfl) (fun _ _ _ h => h) (Or.inl ⟨by rfl, fun w _ => by go_simp⟩) (by assumption) ?_
  simp only [List.getElem_toArray, List.getElem_cons_zero, List.getElem_cons_succ, Act.put, List.setIfInBounds_toArray, List.set_cons_zero, List.set_cons_succ]
  refine wpAnyH_take (i := 21) (v := .bool false) rfl (by kernel_rfl) (by kernel_rfl) (by kernel_rfl) (fun _ _ _ h => h) (Or.inl ⟨by rfl, fun w _ => by go_simp⟩) (by assumption) ?_
  simp only [List.getElem_toArray, List.getElem_cons_zero, List.getElem_cons_succ, Act.put, List.setIfInBounds_toArray, List.set_cons_zero, List.set_cons_succ]
  refine wpAnyH_take (i := 22) (v := .bool mt) rfl (by kernel_rfl) (by kernel_rfl) (by kernel_rfl) (fun _ _ _ h => h) (Or.inl ⟨by rfl, fun w _ => by go_simp⟩) (by assumption) ?_
  simp only [List.getElem_toArray, List.getElem_cons_zero, List.getElem_cons_succ, Act.put, List.setIfInBounds_toArray, List.set_cons_zero, List.set_cons_succ]
  refine wpAnyH_take (i := 23) (v := .pointer (some ⟨gp, 0, none⟩)) rfl (by kernel_rfl) (by kernel_rfl) (by kernel_rfl) (fun _ _ _ h => h) (Or.inl ⟨by rfl, fun w _ => by go_simp⟩) (by assumption) ?_
  simp only [List.getElem_toArray, List.getElem_cons_zero, List.getElem_cons_succ, Act.put, List.setIfInBounds_toArray, List.set_cons_zero, List.set_cons_succ]
  refine wpAnyH_take (i := 24) (v := .pointer (some ⟨gp, 0, none⟩)) rfl (by kernel_rfl) (by kernel_rfl) (by kernel_rfl) (fun _ _ _ h => h) (Or.inl ⟨by rfl, fun w _ => by go_simp⟩) (by assumption) ?_
  simp only [List.getElem_toArray, List.getElem_cons_zero, List.getElem_cons_succ, Act.put, List.setIfInBounds_toArray, List.set_cons_zero, List.set_cons_succ]
  refine wpAnyH_take (i := 25) (v := .pointer (some ⟨gp, 3, none⟩)) rfl (by kernel_rfl) (by kernel_rfl) (by kernel_rfl) (fun _ _ _ h => h) (Or.inl ⟨by rfl, fun w _ => by go_simp⟩) (by assumption) ?_
  simp only [List.getElem_toArray, List.getElem_cons_zero, List.getElem_cons_succ, Act.put, List.setIfInBounds_toArray, List.set_cons_zero, List.set_cons_succ]
  refine wpAnyH_take (i := 26) (v := .pointer (some ⟨gr, 0, none⟩)) rfl (by kernel_rfl) (by kernel_rfl) (by kernel_rfl) (fun _ _ _ h => h) (Or.inl ⟨by rfl, fun w h => by have h9 := (SA.p3 h); go_simp⟩) (by assumption) ?_
  simp only [List.getElem_toArray, List.getElem_cons_zero, List.getElem_cons_succ, Act.put, List.setIfInBounds_toArray, List.set_cons_zero, List.set_cons_succ]
  refine wpAnyH_take (i := 27) (v := .pointer (some ⟨gr, 0, none⟩)) rfl (by kernel_rfl) (by kernel_rfl) (by kernel_rfl) (fun _ _ _ h => h) (Or.inl ⟨by rfl, fun w _ => by go_simp⟩) (by assumption) ?_
  simp only [List.getElem_toArray, List.getElem_cons_zero, List.getElem_cons_succ, Act.put, List.setIfInBounds_toArray, List.set_cons_zero, List.set_cons_succ]
  refine wpAnyH_take (i := 28) (v := .pointer (some ⟨gr, 4, none⟩)) rfl (by kernel_rfl) (by kernel_rfl) (by kernel_rfl) (fun _ _ _ h => h) (Or.inl ⟨by rfl, fun w _ => by go_simp⟩) (by assumption) ?_
  simp only [List.getElem_toArray, List.getElem_cons_zero, List.getElem_cons_succ, Act.put, List.setIfInBounds_toArray, List.set_cons_zero, List.set_cons_succ]
  refine wpAnyH_take (i := 29) (v := .int .u32 (J.num : Int)) rfl (by kernel_rfl) (by kernel_rfl) (by kernel_rfl) (fun _ _ _ h => h) (Or.inl ⟨by rfl, fun w h => by have h9 := (SA.r4 h); go_simp⟩) (by assumption) ?_
  simp only [List.getElem_toArray, List.getElem_cons_zero, List.getElem_cons_succ, Act.put, List.setIfInBounds_toArray, List.set_cons_zero, List.set_cons_succ]
  refine wpAnyH_take (i := 30) (v := .bool mt) rfl (by kernel_rfl) (by kernel_rfl) (by kernel_rfl) (fun _ _ _ h => h) (Or.inl ⟨by rfl, fun w _ => by go_simp⟩) (by assumption) ?_
  simp only [List.getElem_toArray, List.getElem_cons_zero, List.getElem_cons_succ, Act.put, List.setIfInBounds_toArray, List.set_cons_zero, List.set_cons_succ]
  refine wpAnyH_take (i := 31) (v := .bool false) rfl (by kernel_rfl) (by kernel_rfl) (by kernel_rfl) (fun _ _ _ h => h) (Or.inl ⟨by rfl, fun w _ => by go_simp⟩) (by assumption) ?_
  simp only [List.getElem_toArray, List.getElem_cons_zero, List.getElem_cons_succ, Act.put, List.setIfInBounds_toArray, List.set_cons_zero, List.set_cons_succ]
  refine wpAnyH_take (i := 32) (v := .bool false) rfl (by kernel_rfl) (by kernel_rfl) (by kernel_rfl) (fun _ _ _ h => h) (Or.inl ⟨by rfl, fun w _ => by go_simp⟩) (by assumption) ?_
  simp only [List.getElem_toArray, List.getElem_cons_zero, List.getElem_cons_succ, Act.put, List.setIfInBounds_toArray, List.set_cons_zero, List.set_cons_succ]
  refine wpAnyH_take (i := 33) (v := .bool false) rfl (by kernel_rfl) (by kernel_rfl) (by kernel_rfl) (fun _ _ _ h => h) (Or.inl ⟨by rfl, fun w _ => by go_simp⟩) (by assumption) ?_
  simp only [List.getElem_toArray, List.getElem_cons_zero, List.getElem_cons_succ, Act.put, List.setIfInBounds_toArray, List.set_cons_zero, List.set_cons_succ]
  refine wpAnyH_take (i := 34) (v := .pointer (some ⟨gp, 0, none⟩)) rfl (by kernel_rfl) (by kernel_rfl) (by kernel_rfl) (fun _ _ _ h => h) (Or.inl ⟨by rfl, fun w _ => by go_simp⟩) (by assumption) ?_
  simp only [List.getElem_toArray, List.getElem_cons_zero, List.getElem_cons_succ, Act.put, List.setIfInBounds_toArray, List.set_cons_zero, List.set_cons_succ]
  refine wpAnyH_take (i := 35) (v := .pointer (some ⟨gp, 0, none⟩)) rfl (by kernel_rfl) (by kernel_rfl) (by kernel_rfl) (fun _ _ _ h => h) (Or.inl ⟨by rfl, fun w _ => by go_simp⟩) (by assumption) ?_
  simp only [List.getElem_toArray, List.getElem_cons_zero, List.getElem_cons_succ, Act.put, List.setIfInBounds_toArray, List.set_cons_zero, List.set_cons_succ]
  refine wpAnyH_take (i := 36) (v := .pointer (some ⟨gp, 0, none⟩)) rfl (by kernel_rfl) (by kernel_rfl) (by kernel_rfl) (fun _ _ _ h => h) (Or.inl ⟨by rfl, fun w _ => by go_simp⟩) (by assumption) ?_
  simp only [List.getElem_toArray, List.getElem_cons_zero, List.getElem_cons_succ, Act.put, List.setIfInBounds_toArray, List.set_cons_zero, List.set_cons_succ]
  refine wpAnyH_take (i := 37) (v := .pointer (some ⟨g, 0, none⟩)) rfl (by kernel_rfl) (by kernel_rfl) (by kernel_rfl) (fun _ _ _ h => h) (Or.inl ⟨by rfl, fun w h => by have h9 := (SA.p0 h); go_simp⟩) (by assumption) ?_
  simp only [List.getElem_toArray, List.getElem_cons_zero, List.getElem_cons_succ, Act.put, List.setIfInBounds_toArray, List.set_cons_zero, List.set_cons_succ]
  refine wpAnyH_take (i := 39) (v := .pointer (some ⟨gp, 0, none⟩)) rfl (by kernel_rfl) (by kernel_rfl) (by kernel_rfl) (fun _ _ _ h => h) (Or.inl ⟨by rfl, fun w _ => by go_simp⟩) (by assumption) ?_
  simp only [List.getElem_toArray, List.getElem_cons_zero, List.getElem_cons_succ, Act.put, List.setIfInBounds_toArray, List.set_cons_zero, List.set_cons_succ]
  refine wpAnyH_take (i := 40) (v := .pointer (some ⟨gp, 0, none⟩)) rfl (by kernel_rfl) (by kernel_rfl) (by kernel_rfl) (fun _ _ _ h => h) (Or.inl ⟨by rfl, fun w _ => by go_simp⟩) (by assumption) ?_
  simp only [List.getElem_toArray, List.getElem_cons_zero, List.getElem_cons_succ, Act.put, List.setIfInBounds_toArray, List.set_cons_zero, List.set_cons_succ]
  refine wpAnyH_take (i := 41) (v := .pointer (some ⟨gp, 1, none⟩)) rfl (by kernel_rfl) (by kernel_rfl) (by kernel_rfl) (fun _ _ _ h => h) (Or.inl ⟨by rfl, fun w _ => by go_simp⟩) (by assumption) ?_
  simp only [List.getElem_toArray, List.getElem_cons_zero, List.getElem_cons_succ, Act.put, List.setIfInBounds_toArray, List.set_cons_zero, List.set_cons_succ]
  refine wpAnyH_take (i := 42) (v := .pointer (some ⟨g2, 0, none⟩)) rfl (by kernel_rfl) (by kernel_rfl) (by kernel_rfl) (fun _ _ _ h => h) (Or.inl ⟨by rfl, fun w h => by have h9 := (SA.p1 h); go_simp⟩) (by assumption) ?_
  simp only [List.getElem_toArray, List.getElem_cons_zero, List.getElem_cons_succ, Act.put, List.setIfInBounds_toArray, List.set_cons_zero, List.set_cons_succ]
  refine wpAnyH_take (i := 43) (v := .pointer (some ⟨g2, 0, none⟩)) rfl (by kernel_rfl) (by kernel_rfl) (by kernel_rfl) (fun _ _ _ h => h) (Or.inl ⟨by rfl, fun w _ => by go_simp⟩) (by assumption) ?_
  simp only [List.getElem_toArray, List.getElem_cons_zero, List.getElem_cons_succ, Act.put, List.setIfInBounds_toArray, List.set_cons_zero, List.set_cons_succ]
  refine wpAnyH_take (i := 44) (v := .pointer (some ⟨g2, 0, none⟩)) rfl (by kernel_rfl) (by kernel_rfl) (by kernel_rfl) (fun _ _ _ h => h) (Or.inl ⟨by rfl, fun w _ => by go_simp⟩) (by assumption) ?_
  simp only [List.getElem_toArray, List.getElem_cons_zero, List.getElem_cons_succ, Act.put, List.setIfInBounds_toArray, List.set_cons_zero, List.set_cons_succ]
  refine wpAnyH_take (i := 45) (v := .slice (some ⟨h2, 0, none⟩) s.ws.length cw) rfl (by kernel_rfl) (by kernel_rfl) (by kernel_rfl) (fun _ _ _ h => h) (Or.inl ⟨by rfl, fun w h => by have h9 := (SA.f0 h); go_simp⟩) (by assumption) ?_
  simp only [List.getElem_toArray, List.getElem_cons_zero, List.getElem_cons_succ, Act.put, List.setIfInBounds_toArray, List.set_cons_zero, List.set_cons_succ]
  refine wpAnyH_ready (rs := [38]) (by kernel_rfl) (by simp) ?_
  refine AllReadyH.cons rfl (fun K hKK => ?_) AllReadyH.nil
  go_simp
  refine (Words_any g h s _ p6.fl).mono ?_
  rintro e w7 ⟨hw, cw7, rfl, ow7, k7, hlw⟩
  have S7 := S6.keep k7
  have p7 := p6.keep k7
  have o7 := k7.own o6 (by simp)
  have or7 := k7.own or6 (by simp)
  have k07 := k06.trans k7 (by simp)
  clear o6 or6 k06 k7 p6
  refine hKK.out _ _ (S7) (fun hS38 => ?_)
  clear hKK
  refine wpAnyH_ready (rs := [46]) (by kernel_rfl) (by simp) ?_
  refine AllReadyH.cons rfl (fun K hKK => ?_) AllReadyH.nil
  go_simp
  refine (Same_any _ _ _ _ _ _ _ _ s.ws _ (Row.of_own ow7) (Row.of_own (S7.ow))).mono ?_
  rintro e wz ⟨t8, rfl, rfl⟩
  have k8 : Keeps [] w7 (w7.drewN t8) := (Keeps.refl _ _).drewN _
  have S8 := S7.keep k8
  have p8 := p7.keep k8
  have o8 := k8.own o7 (by simp)
  have or8 := k8.own or7 (by simp)
  have k08 := k07.trans k8 (by simp)
  clear o7 or7 k07 k8 p7 ow7
  generalize w7.drewN t8 = w8 at S8 p8 o8 or8 k08 ⊢
  refine hKK.out _ _ (S8) (fun hS46 => ?_)
  clear hKK
  refine wpAnyH_take (i := 47) (v := .bool false) rfl (by kernel_rfl) (by kernel_rfl) (by kernel_rfl) (fun _ _ _ h => h) (Or.inl ⟨by rfl, fun w _ => by go_simp⟩) (by assumption) ?_
  simp only [List.getElem_toArray, List.getElem_cons_zero, List.getElem_cons_succ, Act.put, List.setIfInBounds_toArray, List.set_cons_zero, List.set_cons_succ]
  refine wpAnyH_take (i := 48) (v := .bool false) rfl (by kernel_rfl) (by kernel_rfl) (by kernel_rfl) (fun _ _ _ h => h) (Or.inl ⟨by rfl, fun w _ => by go_simp⟩) (by assumption) ?_
  simp only [List.getElem_toArray, List.getElem_cons_zero, List.getElem_cons_succ, Act.put, List.setIfInBounds_toArray, List.set_cons_zero, List.set_cons_succ]
  refine wpAnyH_take (i := 49) (v := .bool false) rfl (by kernel_rfl) (by kernel_rfl) (by kernel_rfl) (fun _ _ _ h => h) (Or.inl ⟨by rfl, fun w _ => by go_simp⟩) (by assumption) ?_
  simp only [List.getElem_toArray, List.getElem_cons_zero, List.getElem_cons_succ, Act.put, List.setIfInBounds_toArray, List.set_cons_zero, List.set_cons_succ]
  refine wpAnyH_take (i := 50) (v := .pointer (some ⟨gp, 0, none⟩)) rfl (by kernel_rfl) (by kernel_rfl) (by kernel_rfl) (fun _ _ _ h => h) (Or.inl ⟨by rfl, fun w _ => by go_simp⟩) (by assumption) ?_
  simp only [List.getElem_toArray, List.getElem_cons_zero, List.getElem_cons_succ, Act.put, List.setIfInBounds_toArray, List.set_cons_zero, List.set_cons_succ]
  refine wpAnyH_take (i := 51) (v := .pointer (some ⟨gp, 0, none⟩)) rfl (by kernel_rfl) (by kernel_rfl) (by kernel_rfl) (fun _ _ _ h => h) (Or.inl ⟨by rfl, fun w _ => by go_simp⟩) (by assumption) ?_
  simp only [List.getElem_toArray, List.getElem_cons_zero, List.getElem_cons_succ, Act.put, List.setIfInBounds_toArray, List.set_cons_zero, List.set_cons_succ]
  refine wpAnyH_take (i := 52) (v := .pointer (some ⟨gp, 0, none⟩)) rfl (by kernel_rfl) (by kernel_rfl) (by kernel_rfl) (fun _ _ _ h => h) (Or.inl ⟨by rfl, fun w _ => by go_simp⟩) (by assumption) ?_
  simp only [List.getElem_toArray, List.getElem_cons_zero, List.getElem_cons_succ, Act.put, List.setIfInBounds_toArray, List.set_cons_zero, List.set_cons_succ]
  refine wpAnyH_take (i := 53) (v := .pointer (some ⟨g, 0, none⟩)) rfl (by kernel_rfl) (by kernel_rfl) (by kernel_rfl) (fun _ _ _ h => h) (Or.inl ⟨by rfl, fun w h => by have h9 := (SA.p0 h); go_simp⟩) (by assumption) ?_
  simp only [List.getElem_toArray, List.getElem_cons_zero, List.getElem_cons_succ, Act.put, List.setIfInBounds_toArray, List.set_cons_zero, List.set_cons_succ]
  refine wpAnyH_take (i := 55) (v := .pointer (some ⟨gp, 0, none⟩)) rfl (by kernel_rfl) (by kernel_rfl) (by kernel_rfl) (fun _ _ _ h => h) (Or.inl ⟨by rfl, fun w _ => by go_simp⟩) (by assumption) ?_
  simp only [List.getElem_toArray, List.getElem_cons_zero, List.getElem_cons_succ, Act.put, List.setIfInBounds_toArray, List.set_cons_zero, List.set_cons_succ]
  refine wpAnyH_take (i := 56) (v := .pointer (some ⟨gp, 0, none⟩)) rfl (by kernel_rfl) (by kernel_rfl) (by kernel_rfl) (fun _ _ _ h => h) (Or.inl ⟨by rfl, fun w _ => by go_simp⟩) (by assumption) ?_
  simp only [List.getElem_toArray, List.getElem_cons_zero, List.getElem_cons_succ, Act.put, List.setIfInBounds_toArray, List.set_cons_zero, List.set_cons_succ]
  refine wpAnyH_take (i := 57) (v := .pointer (some ⟨gp, 1, none⟩)) rfl (by kernel_rfl) (by kernel_rfl) (by kernel_rfl) (fun _ _ _ h => h) (Or.inl ⟨by rfl, fun w _ => by go_simp⟩) (by assumption) ?_
  simp only [List.getElem_toArray, List.getElem_cons_zero, List.getElem_cons_succ, Act.put, List.setIfInBounds_toArray, List.set_cons_zero, List.set_cons_succ]
  refine wpAnyH_take (i := 58) (v := .pointer (some ⟨g2, 0, none⟩)) rfl (by kernel_rfl) (by kernel_rfl) (by kernel_rfl) (fun _ _ _ h => h) (Or.inl ⟨by rfl, fun w h => by have h9 := (SA.p1 h); go_simp⟩) (by assumption) ?_
  simp only [List.getElem_toArray, List.getElem_cons_zero, List.getElem_cons_succ, Act.put, List.setIfInBounds_toArray, List.set_cons_zero, List.set_cons_succ]
  refine wpAnyH_take (i := 59) (v := .pointer (some ⟨g2, 0, none⟩)) rfl (by kernel_rfl) (by kernel_rfl) (by kernel_rfl) (fun _ _ _ h => h) (Or.inl ⟨by rfl, fun w _ => by go_simp⟩) (by assumption) ?_
  simp only [List.getElem_toArray, List.getElem_cons_zero, List.getElem_cons_succ, Act.put, List.setIfInBounds_toArray, List.set_cons_zero, List.set_cons_succ]
  refine wpAnyH_take (i := 60) (v := .pointer (some ⟨g2, 1, none⟩)) rfl (by kernel_rfl) (by kernel_rfl) (by kernel_rfl) (fun _ _ _ h => h) (Or.inl ⟨by rfl, fun w _ => by go_simp⟩) (by assumption) ?_
  simp only [List.getElem_toArray, List.getElem_cons_zero, List.getElem_cons_succ, Act.put, List.setIfInBounds_toArray, List.set_cons_zero, List.set_cons_succ]
  refine wpAnyH_take (i := 61) (v := .bool (!on)) rfl (by kernel_rfl) (by kernel_rfl) (by kernel_rfl) (fun _ _ _ h => h) (Or.inl ⟨by rfl, fun w h => by have h9 := (SA.f1 h); go_simp⟩) (by assumption) ?_
  simp only [List.getElem_toArray, List.getElem_cons_zero, List.getElem_cons_succ, Act.put, List.setIfInBounds_toArray, List.set_cons_zero, List.set_cons_succ]
  refine wpAnyH_ready (rs := [54]) (by kernel_rfl) (by simp) ?_
  refine AllReadyH.cons rfl (fun K hKK => ?_) AllReadyH.nil
  go_simp
  refine (On_any g h s _ p8.fl).mono ?_
  rintro e w9 ⟨rfl, rfl⟩
  rw [HON.out]
  refine hKK.out _ _ (S8) (fun hS54 => ?_)
  clear hKK
  refine wpAnyH_take (i := 62) (v := .bool false) rfl (by kernel_rfl) (by kernel_rfl) (by kernel_rfl) (fun _ _ _ h => h) (Or.inl ⟨by rfl, fun w _ => by go_simp⟩) (by assumption) ?_
  simp only [List.getElem_toArray, List.getElem_cons_zero, List.getElem_cons_succ, Act.put, List.setIfInBounds_toArray, List.set_cons_zero, List.set_cons_succ]
  refine wpAnyH_take (i := 63) (v := .bool false) rfl (by kernel_rfl) (by kernel_rfl) (by kernel_rfl) (fun _ _ _ h => h) (Or.inl ⟨by rfl, fun w _ => by go_simp⟩) (by assumption) ?_
  simp only [List.getElem_toArray, List.getElem_cons_zero, List.getElem_cons_succ, Act.put, List.setIfInBounds_toArray, List.set_cons_zero, List.set_cons_succ]
  refine wpAnyH_done (by kernel_rfl) ?_ _
  go_wp2
  clear hS0 hS8 hS38 hS46 hS54 S5 S6 S7
  go_loopw [6] (fun i wr => ∃ (j : Nat) (zs : List Value), j ≤ n5 ∧ i = .int .i64 (j : Int) ∧ wr.ownsRow 0 37 1 (.slice A5 n5 c5) n5 zs ∧ w8.grownBy wr (Value.slice A5 n5 c5).ownBlock) (fun i _ => n5 - (intOf i).toNat)
  case atStart => exact ⟨0, _, Nat.zero_le _, rfl, o8, World.grownBy.refl _ _⟩
  case round =>
    clear o8
    obtain ⟨j, zs, hj9, rfl, ho, hb⟩ := hrel
    by_cases hlt : j < n5
    · obtain ⟨gx, rfl⟩ := own_some ho (by omega)
      have hzl := ho.1
      have hc := ho.cellAt j (by omega)
      rw [List.getElem?_eq_getElem (by omega)] at hc
      have hfz := ho.frozenAt j
      have HST := hide (ho.stored j (.int .u32 7))
      clear ho
      generalize zs[j] = u at hc
      clear hzl
      go_wp2
      go_roundw
      case rel => exact ⟨j + 1, _, by omega, by go_num, HST.out.1, grown_trans hb HST.out.2⟩
      case measure => simp [intOf]; omega
    · obtain rfl : n5 = j := by omega
      generalize wr = w10 at *
      obtain ⟨gx, hgx, kx⟩ := Keeps.of_own hb w.heap.size (fun x e => by
        rcases own_addr ho with h0 | ⟨y, h0, _, _⟩
        · rw [h0] at e; cases e
        · rw [h0] at e; simp [Value.ownBlock] at e; subst e; exact hA5 y h0)
      have k010 : Keeps [] w w10 := k08.trans kx (by simp; omega)
      have p10 := p.keep k010
      have y2 : w10.cell? ⟨gp, 2, none⟩ = some (.pointer (some ⟨gj, 0, none⟩)) := p10.bp.cell (j := 2) rfl
      clear hb kx or8 p8 S8 ho k08
      go_wp2_with (first
        | (go_at_call 22; refine (Last_any gj hj g k _ J w10 p10.jr).mono ?_; rintro e w11 ⟨A11, n11, c11, rfl, o11, hA11, k11⟩; have p11 := p10.keep k11; obtain ⟨Ar2, nr2, cr2, br2, or2, _, _⟩ := p11.rj.ex; have y3 : w11.cell? ⟨gp, 3, none⟩ = some (.pointer (some ⟨gr, 0, none⟩)) := p11.bp.cell (j := 3) rfl; have y33 : w11.cell? ⟨gr, 3, none⟩ = some (.slice Ar2 nr2 cr2) := br2.cell (j := 3) rfl; have H11 := hide (And.intro (Row.of_own o11) (Row.of_own or2)); clear o11 or2 br2)
        | (go_at_call 12; refine (Same_any _ _ _ _ _ _ _ _ J.rcd _ H11.out.1 H11.out.2).mono ?_; rintro e w12 ⟨t12, rfl, rfl⟩))
      go_ret
      exact ⟨rfl, (k010.trans k11 (by simp)).drewN t12⟩
end Go.Proofs.Ytahnfkoakaimhaa
