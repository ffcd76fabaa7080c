/-
  Contracts of the statements' own helpers: known, light.
-/
import Derived.Test.YtdikiabjkmigdaaYPkg11
namespace Go.Proofs.Ytdikiabjkmigdaa
open Go.RowKit
set_option maxRecDepth 20000
set_option maxHeartbeats 4000000

def oneM : Im := ⟨1, 0, 0, ⟨0, 0, 0, 0, 0⟩, [], [], [], 0, 0⟩
theorem one_chk : chkM oneM = 0 := by decide +kernel
theorem zero_chk : chkM zeroM = 1 := by decide +kernel
theorem one_wf : Wf oneM := by
  refine ⟨by decide, by decide, ?_, ?_, ?_⟩ <;> (intro v hv; simp [oneM] at hv)
theorem one_len : (encM oneM).length = 27 := by decide +kernel
theorem one_enE : enE oneM = 0 := by unfold enE; rw [one_chk, one_len]; decide
theorem one_enL : enL oneM = encM oneM := if_pos one_enE
/-- What was laid is read back. -/
theorem par_back {m : Im} (hw : Wf m) (h : enE m = 0) (ho : m.fr.o = m.fr.n) : parE (encM m) = 0 ∧ parM (encM m) = m := by
  have h0 : chkM m = 0 := by
    unfold enE at h
    split at h
    · contradiction
    · rename_i h1; exact Classical.not_not.1 h1
  have hl : ¬ 2016 < (encM m).length := by
    unfold enE at h
    rw [if_neg (fun hn => hn h0)] at h
    intro hn
    rw [if_pos hn] at h
    omega
  obtain ⟨hf, hr⟩ := rd_enc (chk_fit hw h0) hw.st hw.mv hw.fs
  have hr2 : rdM (encM m) = m := by
    rw [hr]
    obtain ⟨v, f, e, ⟨s, o, n, i, u⟩, fs, st, mv, x, y⟩ := m
    simp only at ho
    subst ho
    rfl
  have hp : parE (encM m) = 0 := by unfold parE; rw [if_neg hl, if_neg (fun hn => hn hf), hr2, h0]
  exact ⟨hp, by unfold parM; rw [if_pos hp, hr2]⟩
theorem held_nil (w : World) (B : Nat) {v : Int} (hv : 0 ≤ v ∧ v < 4294967296) : Held w B ⟨v, 0, 0, 0, 0, 0, 0, 0, 0, 0, [], [], [], none, 0, 0, none, 0, 0, none, 0, 0⟩ :=
  ⟨Row.none_, RowI.none_, RowI.none_, ⟨hv, ⟨by show (0 : Int) ≤ 0; omega, by show (0 : Int) < _; omega⟩, by intro v hv; simp [IV.m] at hv, by intro v hv; simp [IV.m] at hv, by intro v hv; simp [IV.m] at hv⟩⟩
theorem known_any (w : World) : Calls Try.prog 7 #[] w fun e w' => e = .returned (.bool true) ∧ Below w.heap.size w w' := by
  go_enter Try.func7, Try.ntmps7
  go_wp2_with fail
  refine (Encode11_any ⟨1, 0, 0, 0, 0, 0, 0, 0, 0, 0, [], [], [], none, 0, 0, none, 0, 0, none, 0, 0⟩ w (held_nil w _ (by decide))).mono ?_
  rintro e w1 ⟨A1, n1, c1, rfl, r1_, hb1⟩
  rw [show IV.m ⟨1, 0, 0, 0, 0, 0, 0, 0, 0, 0, [], [], [], none, 0, 0, none, 0, 0, none, 0, 0⟩ = oneM from rfl, one_enL] at r1_
  rw [show enE (IV.m ⟨1, 0, 0, 0, 0, 0, 0, 0, 0, 0, [], [], [], none, 0, 0, none, 0, 0, none, 0, 0⟩) = 0 from one_enE]
  have hn := r1_.len
  rw [cs8_len, one_len] at hn
  obtain rfl : n1 = 27 := hn.symm
  clear hn
  obtain ⟨p1, p2⟩ := par_back one_wf one_enE rfl
  have HP := hide (And.intro p1 p2)
  clear p1 p2
  go_wp2_with fail
  refine (Parse_any w1.heap.size A1 27 c1 (encM oneM) w1 r1_ (Nat.le_refl _)).mono ?_
  rw [HP.out.1, HP.out.2]
  rintro e w2 ⟨K, rfl, hm, _, _, _, hb2⟩
  have hv : K.v = 1 := congrArg Im.ver hm
  have HV := hide hv
  have hb3 := hb1.trans (hb2.mono hb1.size)
  obtain ⟨v, f, e, s, o, n, i, u, x, y, fs, st, mv, fA, fn, fc, sA, sn, sc, mA, mn, mc⟩ := K
  simp only at hv
  subst hv
  have hb4 := hb3.alloc hb3.size (.cells #[.int .u32 1, .int .u32 f, .int .i64 e, .int .i64 s, .int .i64 o, .int .i64 n, .int .i64 i, .int .i64 u, .slice fA fn fc, .slice sA sn sc, .slice mA mn mc, .int .i64 x, .int .i64 y] 28)
  have HB := hide hb4
  clear hb1 hb2 hb3 hb4 hm HV HP r1_
  go_wp2_with fail
  refine (Check11_any ⟨0, 0, 0, 0, 0, 0, 0, 0, 0, 0, [], [], [], none, 0, 0, none, 0, 0, none, 0, 0⟩ 1 _ (held_nil _ _ (by decide)) (hide zero_chk)).mono ?_
  rintro e' w4 ⟨rfl, hb5⟩
  have HB2 := hide (HB.out.trans (hb5.mono HB.out.size))
  clear hb5
  go_wp2
  go_ret
  exact ⟨rfl, HB2.out⟩
def lightB (K : IV) : Bool := decide (K.sn ≤ 2000 ∧ K.mn ≤ 2000 ∧ K.fn ≤ 200)
theorem light_b (K : IV) (b : Bool) (w : World) (H : Hid (lightB K = b)) :
    Calls Try.prog 6 #[.agg #[.int .u32 K.v, .int .u32 K.f, .int .i64 K.e, .int .i64 K.s, .int .i64 K.o, .int .i64 K.n, .int .i64 K.i, .int .i64 K.u, .slice K.fA K.fn K.fc, .slice K.sA K.sn K.sc, .slice K.mA K.mn K.mc, .int .i64 K.x, .int .i64 K.y]] w (TellsB w b) := by
  obtain ⟨v, f, e, s, o, n, i, u, x, y, fs, st, mv, fA, fn, fc, sA, sn, sc, mA, mn, mc⟩ := K
  simp only
  have h : decide (sn ≤ 2000 ∧ mn ≤ 2000 ∧ fn ≤ 200) = b := H.out
  have cs : (decide ((sn : Int) ≤ 2000) = false ∧ b = false) ∨ (decide ((sn : Int) ≤ 2000) = true ∧ decide ((mn : Int) ≤ 2000) = false ∧ b = false) ∨ (decide ((sn : Int) ≤ 2000) = true ∧ decide ((mn : Int) ≤ 2000) = true ∧ decide ((fn : Int) ≤ 200) = b) := by
    by_cases h1 : sn ≤ 2000
    · by_cases h2 : mn ≤ 2000
      · refine .inr (.inr ⟨by simp; omega, by simp; omega, ?_⟩)
        rw [← h]
        by_cases h3 : fn ≤ 200
        · rw [decide_eq_true (show (fn : Int) ≤ 200 by omega), decide_eq_true ⟨h1, h2, h3⟩]
        · rw [decide_eq_false (show ¬ (fn : Int) ≤ 200 by omega), decide_eq_false (fun hn => h3 hn.2.2)]
      · exact .inr (.inl ⟨by simp; omega, by simp; omega, by rw [← h]; exact decide_eq_false fun hn => h2 hn.2.1⟩)
    · exact .inl ⟨by simp; omega, by rw [← h]; exact decide_eq_false fun hn => h1 hn.1⟩
  clear H h
  rcases cs with ⟨h1, rfl⟩ | ⟨h1, h2, rfl⟩ | ⟨h1, h2, h3⟩
  · go_enter Try.func6, Try.ntmps6
    go_wp2
    go_ret
    exact ⟨rfl, below_box w _⟩
  · go_enter Try.func6, Try.ntmps6
    go_wp2
    go_ret
    exact ⟨rfl, below_box w _⟩
  · have HH := hide h3
    cases b
    all_goals
      go_enter Try.func6, Try.ntmps6
      go_wp2
      go_ret
      exact ⟨rfl, below_box w _⟩

end Go.Proofs.Ytdikiabjkmigdaa
