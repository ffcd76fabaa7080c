/-
  The walk of the law JournalCrashes.
-/
import Derived.Test.YtfchfmekpealjaaJOps
import Derived.Deep.RegionHeld3
namespace Go.Proofs.Ytfchfmekpealjaa
open Go.RowKit
set_option maxHeartbeats 8000000

theorem progsS_ops (l : List UInt32) : ∀ (s : FS) (a : Nat), (progsS s a l).ops ≤ s.ops + l.length := by
  induction l with
  | nil => intro s a; exact Nat.le_refl _
  | cons v l ih =>
    intro s a
    rw [progsS]
    have h1 := proS_ops s (a : Int) v
    have h2 := ih (proS s (a : Int) v) (a + 1)
    rw [List.length_cons]
    split <;> omega
theorem appS_ops (s : FS) (k : Nat) (r : List UInt32) : (appS s k r).ops ≤ s.ops + (r.length + 5) := by
  unfold appS
  have h0 := eraS_ops s (othN s.ws k : Int)
  split
  · have := progsS_ops (laidW ((curV s.ws k).num + 1) r) s (256 * curN s.ws k + (curV s.ws k).used)
    rw [laidW_len] at this; omega
  · split
    · have := progsS_ops (laidW ((curV s.ws k).num + 1) r) (eraS s (othN s.ws k)) (256 * othN s.ws k)
      rw [laidW_len] at this; omega
    · omega
/-- What an Append leaves of a journal at work: the record, with OK or torn, or torn, the one before. -/
theorem crash_step {s : FS} {k : Nat} {r o : List UInt32} {N : Nat} (hon : s.on = true) (hl : 256 * (k + 2) ≤ s.ws.length) (hv : opJ s.ws k = ⟨r, N, false⟩) (hN : N ≤ 1000) (h1 : 1 ≤ o.length) (h2 : o.length ≤ 64) :
    ∃ (a : Int) (s3 : FS), jE s k ⟨r, N, false⟩ o = a ∧ jS s k ⟨r, N, false⟩ o = s3 ∧ s3.ws.length = s.ws.length ∧ s3.ops ≤ s.ops + 70 ∧
      ((a = 0 ∧ opJ s3.ws k = ⟨o, N + 1, false⟩) ∨ (a = 7 ∧ s3.on = false ∧ opJ s3.ws k = ⟨o, N + 1, false⟩) ∨ (a = 7 ∧ s3.on = false ∧ opJ s3.ws k = ⟨r, N, false⟩)) := by
  have hr : (curV s.ws k).rcd = r := congrArg JS.rcd hv
  have hn : (curV s.ws k).num = N := congrArg JS.num hv
  have h3 : ¬ ((⟨r, N, false⟩ : JS).dead = true ∨ s.on = false) := by rw [hon]; simp
  have h4 : ¬ bigB ⟨r, N, false⟩ o := by unfold bigB; show ¬ (_ ∨ _ ∨ N = _); omega
  obtain ⟨_, hlen, h⟩ := app_spec s k o hon hl h1 h2 (by omega)
  have hops := appS_ops s k o
  refine ⟨appE s k o, appS s k o, ?_, ?_, hlen, by omega, ?_⟩
  · unfold jE; rw [if_neg h3, if_neg h4]
  · unfold jS; rw [if_neg h3, if_neg h4]
  · rcases h with ⟨e, ok⟩ | ⟨e, t⟩
    · left; refine ⟨e, ?_⟩; unfold opJ; rw [ok.val, hn]
    · right
      rcases t.val with ⟨v1, v2⟩ | ⟨v1, v2⟩
      · right; refine ⟨e, t.off, ?_⟩; unfold opJ; rw [v1, v2, hn, hr]
      · left; refine ⟨e, t.off, ?_⟩; unfold opJ; rw [v1, v2, hn]
theorem Cut_far (g h : Nat) (s : FS) (w : World) (f : Fl w g h s) : Calls Try.prog 17 #[.pointer (some ⟨g, 0, none⟩), .int .i64 1048576, .int .u32 0] w (Does w g h ⟨s.ws, s.on, s.ops, some (1048576, 0)⟩ (.int .i64 0)) :=
  Cut_any g h s 1048576 0 w f (by omega)
theorem Cut_near (g h : Nat) (s : FS) (n : Nat) (m : UInt32) (w : World) (f : Fl w g h s) (hn : n ≤ 9223372036854775807) : Calls Try.prog 17 #[.pointer (some ⟨g, 0, none⟩), .int .i64 (n : Int), .int .u32 (m.toNat : Int)] w (Does w g h ⟨s.ws, s.on, s.ops, some (n, m)⟩ (.int .i64 0)) := by
  have h0 := Cut_any g h s (n : Int) m w f (by omega)
  have e1 : cutS s (n : Int) m = ⟨s.ws, s.on, s.ops, some (n, m)⟩ := by unfold cutS; rw [if_pos (by omega)]; rfl
  have e2 : cutE (n : Int) = 0 := by unfold cutE; rw [if_pos (by omega)]
  rw [e1, e2] at h0
  exact h0
theorem Count_80 (a : Int) (w : World) : Calls Try.prog 23 #[.int .i64 a, .int .i64 80] w fun e w' => e = .returned (.int .i64 (cntN a 80 : Int)) ∧ w = w' := Count_any a 80 w (by omega) (by omega)
def CrashAt (w wr : World) (g h q gj hj : Nat) (s : FS) (A1 : Option Addr) (n1 c1 : Nat) (r : List UInt32) (N : Nat) : Prop :=
  Fl wr g h s ∧ Jr wr gj hj g 0 s.ws ⟨r, N, false⟩ ∧ wr.ownsRow 0 37 1 (.slice A1 n1 c1) n1 (cs32 r) ∧ (∀ x, A1 = some ⟨x, 0, none⟩ → x ≠ gj ∧ x ≠ g ∧ x ≠ h) ∧ Keeps [] w wr ∧ s.on = true ∧ s.ws.length = 512 ∧ s.ops ≤ 70 * q ∧ opJ s.ws 0 = ⟨r, N, false⟩ ∧ hj ≠ g ∧ hj ≠ h ∧ gj ≠ g ∧ gj ≠ h
theorem CrashAt.keep {w wr wx : World} {g h q q' gj hj : Nat} {s : FS} {A1 : Option Addr} {n1 c1 : Nat} {r : List UInt32} {N : Nat} (C : CrashAt w wr g h q gj hj s A1 n1 c1 r N) (k : Keeps [] wr wx) (hq : q ≤ q') : CrashAt w wx g h q' gj hj s A1 n1 c1 r N := by
  obtain ⟨m1, m2, m3, m4, m5, m6, m7, m8, m9⟩ := C
  exact ⟨k.fl m1 (by simp) (by simp), k.jr m2 (by simp) (by simp), k.own m3 (by simp), m4, m5.trans k (by simp), m6, m7, by omega, m9⟩
set_option maxRecDepth 10000 in
theorem crashes_walk (A : Option Addr) (n c : Nat) (os : List JO) (w : World) (hr : JOps w A n c os) :
    Calls Try.prog 4 #[.slice A n c] w fun e w' => e = .returned (.bool true) ∧ Below w.heap.size w w' := by
  have hm := hr.max
  have hcap := hr.cap
  unfold maxLen at hm
  go_enter Try.func4, Try.ntmps4
  go_wp2_with fail
  refine (light_any A n c os w w hr (Keeps.refl _ _)).mono ?_
  rintro e w1 ⟨⟨b, rfl⟩, rfl⟩
  rcases b with _ | _
  · go_wp2_with fail
    refine (known_any _).mono ?_
    rintro e w3 ⟨rfl, k2⟩
    go_wp2
    go_ret
    exact ⟨rfl, k2.back⟩
  go_wp2_with fail
  refine (New_2 w).mono ?_
  rintro e w1 ⟨g, h, rfl, f1, k1, hg, hh⟩
  have l1 := f1.lt
  have l2 := f1.lt2
  go_wp2_with fail
  refine (Open_0 g h _ w1 f1 rfl (by rw [new_len]; omega)).mono ?_
  rintro e w2 ⟨gj, hj, rfl, j2, k2, hgj, hhj⟩
  rw [new_opJ (by omega)] at j2
  have f2 := k2.fl f1 (by simp) (by simp)
  have k02 : Keeps [] w w2 := k1.trans k2 (by simp)
  have lj := j2.lt
  have hs2 := k2.size
  have C0 : CrashAt w w2 g h 0 gj hj (newS 2) none 0 0 [] 0 := ⟨f2, j2, World.ownsRow_nil _ _ _ _, (fun x e => by cases e), k02, rfl, new_len 2, Nat.zero_le _, new_opJ (by omega), by omega, by omega, by omega, by omega⟩
  clear f1 k1 k2 f2 j2 k02
  go_wp2_with fail
  go_loopw [4, 6, 7, 8] (fun jp sl nu i wr => ∃ (q gj hj : Nat) (s : FS) (A1 : Option Addr) (n1 c1 : Nat) (r : List UInt32) (N : Nat), q ≤ n ∧ q ≤ 40 ∧ N ≤ q ∧ w.heap.size ≤ gj ∧ jp = .pointer (some ⟨gj, 0, none⟩) ∧ sl = .slice A1 n1 c1 ∧ nu = .int .u32 (N : Int) ∧ i = .int .i64 (q : Int) ∧ CrashAt w wr g h q gj hj s A1 n1 c1 r N) (fun _ _ _ i _ => 40 - (intOf i).toNat)
  case atStart => exact ⟨0, gj, hj, newS 2, none, 0, 0, [], 0, Nat.zero_le _, by omega, Nat.le_refl _, by omega, rfl, rfl, rfl, rfl, C0⟩
  case round =>
    clear C0 hgj hhj lj
    generalize wr = w5 at hrel ⊢
    obtain ⟨q, gj, hj, s, A1, n1, c1, r, N, hq, hq4, hNq, hgj, rfl, rfl, rfl, rfl, CA⟩ := hrel
    by_cases hlt : q < n
    · by_cases hl4 : q < 40
      · obtain ⟨b, fo, o, rfl, hb, x0, x1, x2, x3, hro, hN1, hk1, hk2⟩ := hr.get CA.2.2.2.2.1 hlt
        obtain ⟨kd, oA, on, oc, ol, oN, ov⟩ := o
        dsimp only at x0 x1 x2 x3 hro hN1 hk1 hk2
        have hi1 : (q : Int) < (n : Int) := by omega
        have hom := hro.max
        have hoc := hro.cap
        have hol := hro.len
        rw [cs32_len] at hol
        unfold maxLen at hom
        have HRO := hide hro
        have HCA := hide CA
        have hgs : g < w5.heap.size := CA.1.lt
        have hhs : h < w5.heap.size := CA.1.lt2
        have hjs : gj < w5.heap.size := CA.2.1.lt
        have HW := hide hr
        have bo := Blk.new w5 39 [.int .i64 kd, .slice oA on oc, .int .i64 oN, .int .u32 (ov.toNat : Int)]
        have ko := (Keeps.refl [] w5).alloc (.cells #[.int .i64 kd, .slice oA on oc, .int .i64 oN, .int .u32 (ov.toNat : Int)] 39)
        have hsz : (w5.alloc (.cells #[.int .i64 kd, .slice oA on oc, .int .i64 oN, .int .u32 (ov.toNat : Int)] 39)).heap.size = w5.heap.size + 1 := by simp
        have HB := hide (And.intro bo (And.intro ko hsz))
        clear hro CA hr bo ko hsz
        by_cases hfit : 1 ≤ on ∧ on ≤ 64
        · have t1 : decide ((on : Int) < 1) = false := by simp; omega
          have t2 : decide ((64 : Int) < (on : Int)) = false := by simp; omega
          go_wp2_with fail
          obtain ⟨bo, ko, hsz⟩ := HB.out
          generalize w5.alloc (.cells #[.int .i64 kd, .slice oA on oc, .int .i64 oN, .int .u32 (ov.toNat : Int)] 39) = w6 at bo ko hsz HB ⊢
          clear x0 x1 x2 x3 HB
          refine (Cut_far g h s w6 (ko.fl HCA.out.1 (by simp) (by simp))).mono ?_
          rintro e w7 ⟨rfl, f7, k7⟩
          have bo7 := k7.blk bo (by simp; omega)
          have k57 : Keeps [g, h] w5 w7 := (ko.more (by simp)).trans k7 (by simp)
          have hs7 := k7.size
          have y0 := bo7.cell (j := 0) rfl
          clear bo ko k7
          by_cases hodd : kd.tmod 2 = 1
          · have t3 : (kd.tmod 2 == 1) = true := by rw [beq_iff_eq]; exact hodd
            go_wp2_with fail
            obtain ⟨y2, y3⟩ : w7.drew.cell? ⟨w5.heap.size, 2, none⟩ = some (.int .i64 oN) ∧ w7.drew.cell? ⟨w5.heap.size, 3, none⟩ = some (.int .u32 (ov.toNat : Int)) := ⟨bo7.drew.cell (j := 2) rfl, bo7.drew.cell (j := 3) rfl⟩
            have f0 : Fl w7.drew g h ⟨s.ws, s.on, s.ops, some (1048576, 0)⟩ := (Keeps.refl [] w7).drew.fl f7 (by simp) (by simp)
            have k0 : Keeps [g, h] w5 w7.drew := k57.drew
            have b0 := bo7.drew
            have hcn : cntN oN 80 ≤ 79 := by have := cntN_lt oN (m := 80) (by omega); omega
            have K0 := hide (And.intro k0 b0)
            clear f7 k57 bo7 y0 k0 b0 hodd
            go_region_held3 (fun W : World => W.cell? ⟨w5.heap.size, 2, none⟩ = some (.int .i64 oN) ∧ W.cell? ⟨w5.heap.size, 3, none⟩ = some (.int .u32 (ov.toNat : Int))) (first | exact ⟨y2, y3⟩ | exact ⟨y82, y83⟩) (first
              | (go_at_call 23; refine (Count_80 _ _).mono ?_; rintro e wz ⟨rfl, rfl⟩)
              | (go_at_call 17; refine (Cut_near g h _ (cntN oN 80) ov _ f0 (by omega)).mono ?_; rintro e w8 ⟨rfl, f8, k8⟩; have y82 := (k8.blk K0.out.2 (by simp; omega)).cell (j := 2) rfl; have y83 := (k8.blk K0.out.2 (by simp; omega)).cell (j := 3) rfl))
            all_goals
              have k58 : Hid (Keeps [g, h] w5 w8) := K0.out.1.trans k8 (by simp)
              have bo8 := k8.blk K0.out.2 (by simp; omega)
              obtain ⟨s2, hs2'⟩ : ∃ s2 : FS, s2 = ⟨s.ws, s.on, s.ops, some (cntN oN 80, ov)⟩ := ⟨_, rfl⟩
              rw [← hs2'] at f8
              have HS2 : Hid (s2.ws = s.ws ∧ s2.on = s.on ∧ s2.ops = s.ops) := by rw [hs2']; exact ⟨rfl, rfl, rfl⟩
              have F8 := hide f8
              have B8 := hide bo8
              have z1 := bo8.cell (j := 1) rfl
              have hs8 : w5.heap.size < w8.heap.size := bo8.lt
              clear hs2' f8 k8 bo8 K0 f0 y2 y3 y82 y83
              go_wp2_with fail
              obtain ⟨_, m2, m3, m4, m5, m6, m7, m8, m9, m10, m11, m12, m13⟩ := HCA.out
              obtain ⟨e1, e2, e3⟩ := HS2.out
              have hs5 := m5.size
              have j8 : Jr w8 gj hj g 0 s2.ws ⟨r, N, false⟩ := by rw [e1]; exact k58.out.jr m2 (by simp; exact ⟨m12, m13⟩) (by simp; exact ⟨m10, m11⟩)
              have r8 : Row w8 w.heap.size oA on oc (cs32 ol) := k58.out.row HRO.out (by omega) (by simp; omega)
              have hA8 : ∀ a, oA = some a → a.block ∉ [gj, g, h] := fun a ha => by
                obtain ⟨b9, o9, e9, hlt9, _⟩ := r8.cells (by omega)
                rw [e9] at ha; obtain rfl := Option.some.inj ha; simp; omega
              obtain ⟨a, s3, q1, q2, q3, q4, q5⟩ := crash_step (s := s2) (k := 0) (r := r) (o := ol) (N := N) (by rw [e2]; exact m6) (by rw [e1]; omega) (by rw [e1]; exact m9) (by omega) (by omega) (by omega)
              have HA := hide (Append_any gj hj g h 0 on oc oA ol ⟨r, N, false⟩ s2 w8 j8 m12 m13 m10 m11 F8.out (r8.more (by omega)) hA8 (by rw [e1]; omega) (by omega))
              rw [q1, q2] at HA
              have o8 := k58.out.own m3 (fun x e => by simp; exact ⟨(m4 x e).2.1, (m4 x e).2.2⟩)
              have HX : Hid (s3.ws.length = 512 ∧ s3.ops ≤ 70 * (q + 1)) := ⟨by rw [q3, e1]; exact m7, by omega⟩
              have H8 := hide (And.intro o8 (And.intro r8 (And.intro m4 (m5.trans k58.out (by simp; omega)))))
              have HM := hide (And.intro m12 m13)
              clear m2 m3 m4 m5 m6 m7 m8 m9 m10 m11 m12 m13 e1 e2 e3 j8 r8 hA8 q1 q2 q3 q4 o8 HCA HRO
              refine HA.out.mono ?_
              rintro e w9 ⟨rfl, f9, k9, hj9, hhj9, j9⟩
              obtain ⟨o8, r8, m4, k08⟩ := H8.out
              have hs9 := k9.size
              have o9 := k9.own o8 (fun x e => by simp; exact ⟨(m4 x e).1, (m4 x e).2.1, (m4 x e).2.2⟩)
              have b9 := k9.blk B8.out (by simp; omega)
              have r9 : Row w9 w.heap.size oA on oc (cs32 ol) := k9.row r8 (by omega) (by simp; omega)
              have k09 : Keeps [] w w9 := k08.trans k9 (by simp; omega)
              have H9 := hide (And.intro o9 (And.intro b9 (And.intro r9 k09)))
              have M4 := hide m4
              clear o8 r8 m4 k08 o9 b9 r9 k09 k9 j9 hhj9 H8 HA B8 F8 k58 HS2 z1 t1 t2 t3
              have hs9' : g < w9.heap.size ∧ h < w9.heap.size ∧ gj < w9.heap.size ∧ w5.heap.size < w9.heap.size := by omega
              rcases q5 with ⟨rfl, q6⟩ | ⟨rfl, qoff, q6⟩ | ⟨rfl, qoff, q6⟩
              · go_wp2_with fail
                have Q6 := hide q6
                clear q6
                refine (Start_any g h _ _ f9).mono ?_
                rintro e w10 ⟨rfl, f10, k10⟩
                go_wp2_with fail
                refine (Open_0 g h _ _ f10 rfl (by show 512 ≤ s3.ws.length; have := HX.out.1; omega)).mono ?_
                rintro e w11 ⟨gk, hk, rfl, j11, k11, hgk, hhk⟩
                have f11 := k11.fl f10 (by simp) (by simp)
                have hs10 := k10.size
                have hs11 := k11.size
                have j11 : Jr w11 gk hk g 0 s3.ws ⟨ol, N + 1, false⟩ := by rw [← Q6.out]; exact j11
                clear f9 f10
                go_wp2_with fail
                refine (Last_any gk hk g 0 _ _ w11 j11).mono ?_
                rintro e w12 ⟨A12, n12, c12, rfl, o12, hA12, k12⟩
                have hlk := j11.lt
                have k912 : Keeps [g, h] w9 w12 := (k10.trans k11 (by simp)).trans k12 (by simp)
                obtain ⟨o9, b9, r9, k09⟩ := H9.out
                have b12 := k912.blk b9 (by simp; omega)
                have l12 : Row w12 w12.heap.size A1 n1 c1 (cs32 r) := Row.of_own (k912.own o9 (fun x e => by simp; exact ⟨(M4.out x e).2.1, (M4.out x e).2.2⟩))
                have x12 : Row w12 w12.heap.size A12 n12 c12 (cs32 (ol)) := Row.of_own o12
                have hs12 := k12.size
                have r12 : Row w12 w12.heap.size oA on oc (cs32 ol) := (k912.row r9 (by omega) (by simp; omega)).more (by omega)
                have C12 : Hid (CrashAt w w12 g h (q + 1) gk hk (staS s3) A12 n12 c12 (ol) (N + 1)) := ⟨k12.fl f11 (by simp) (by simp), k12.jr j11 (by simp) (by simp), o12, (fun x e => by have := hA12 x e; omega), k09.trans k912 (by simp; omega), rfl, HX.out.1, HX.out.2, Q6.out, by omega, by omega, by omega, by omega⟩
                have R12 := hide r12
                have X12 := hide x12
                clear f11 j11 k10 k11 k12 k912 o9 b9 r9 k09 o12 hA12 H9 M4 r12
                go_wp2_with fail
                clear x12
                refine (Same_dec _ _ _ _ _ _ _ _ ol r w12 X12.out l12).mono ?_
                rintro e wz ⟨kd1, rfl, rfl⟩
                have z12 : (w12.drewN kd1).cell? ⟨w5.heap.size, 1, none⟩ = some (.slice oA on oc) := (b12.drewN kd1).cell (j := 1) rfl
                clear l12 b12
                generalize decide (ol = r) = bb
                rcases bb with _ | _
                all_goals
                  go_wp2_with fail
                  refine (Same_any _ _ _ _ _ _ _ _ ol (w12.drewN kd1) (X12.out.of_drewN kd1) (R12.out.of_drewN kd1)).mono ?_
                  rintro e wz ⟨kd2, rfl, rfl⟩
                  clear z12
                  go_wp2_with fail
                  go_roundw
                  case rel => exact ⟨q + 1, gk, hk, staS s3, A12, n12, c12, ol, N + 1, by omega, by omega, by omega, by omega, rfl, rfl, by first | rfl | go_num, by go_num, C12.out.keep ((Keeps.refl [] w12).drewN (kd1 + kd2)) (Nat.le_refl _)⟩
                  case measure => simp [intOf]; omega
              · go_wp2_with fail
                refine (On_any g h _ _ f9).mono ?_
                rintro e wz ⟨rfl, rfl⟩
                rw [qoff]
                go_wp2_with fail
                have Q6 := hide q6
                clear q6
                refine (Start_any g h _ _ f9).mono ?_
                rintro e w10 ⟨rfl, f10, k10⟩
                go_wp2_with fail
                refine (Open_0 g h _ _ f10 rfl (by show 512 ≤ s3.ws.length; have := HX.out.1; omega)).mono ?_
                rintro e w11 ⟨gk, hk, rfl, j11, k11, hgk, hhk⟩
                have f11 := k11.fl f10 (by simp) (by simp)
                have hs10 := k10.size
                have hs11 := k11.size
                have j11 : Jr w11 gk hk g 0 s3.ws ⟨ol, N + 1, false⟩ := by rw [← Q6.out]; exact j11
                clear f9 f10
                go_wp2_with fail
                refine (Last_any gk hk g 0 _ _ w11 j11).mono ?_
                rintro e w12 ⟨A12, n12, c12, rfl, o12, hA12, k12⟩
                have hlk := j11.lt
                have k912 : Keeps [g, h] w9 w12 := (k10.trans k11 (by simp)).trans k12 (by simp)
                obtain ⟨o9, b9, r9, k09⟩ := H9.out
                have b12 := k912.blk b9 (by simp; omega)
                have l12 : Row w12 w12.heap.size A1 n1 c1 (cs32 r) := Row.of_own (k912.own o9 (fun x e => by simp; exact ⟨(M4.out x e).2.1, (M4.out x e).2.2⟩))
                have x12 : Row w12 w12.heap.size A12 n12 c12 (cs32 (ol)) := Row.of_own o12
                have hs12 := k12.size
                have r12 : Row w12 w12.heap.size oA on oc (cs32 ol) := (k912.row r9 (by omega) (by simp; omega)).more (by omega)
                have C12 : Hid (CrashAt w w12 g h (q + 1) gk hk (staS s3) A12 n12 c12 (ol) (N + 1)) := ⟨k12.fl f11 (by simp) (by simp), k12.jr j11 (by simp) (by simp), o12, (fun x e => by have := hA12 x e; omega), k09.trans k912 (by simp; omega), rfl, HX.out.1, HX.out.2, Q6.out, by omega, by omega, by omega, by omega⟩
                have R12 := hide r12
                have X12 := hide x12
                clear f11 j11 k10 k11 k12 k912 o9 b9 r9 k09 o12 hA12 H9 M4 r12
                go_wp2_with fail
                clear x12
                refine (Same_dec _ _ _ _ _ _ _ _ ol r w12 X12.out l12).mono ?_
                rintro e wz ⟨kd1, rfl, rfl⟩
                have z12 : (w12.drewN kd1).cell? ⟨w5.heap.size, 1, none⟩ = some (.slice oA on oc) := (b12.drewN kd1).cell (j := 1) rfl
                clear l12 b12
                generalize decide (ol = r) = bb
                rcases bb with _ | _
                all_goals
                  go_wp2_with fail
                  refine (Same_any _ _ _ _ _ _ _ _ ol (w12.drewN kd1) (X12.out.of_drewN kd1) (R12.out.of_drewN kd1)).mono ?_
                  rintro e wz ⟨kd2, rfl, rfl⟩
                  clear z12
                  go_wp2_with fail
                  go_roundw
                  case rel => exact ⟨q + 1, gk, hk, staS s3, A12, n12, c12, ol, N + 1, by omega, by omega, by omega, by omega, rfl, rfl, by first | rfl | go_num, by go_num, C12.out.keep ((Keeps.refl [] w12).drewN (kd1 + kd2)) (Nat.le_refl _)⟩
                  case measure => simp [intOf]; omega
              · go_wp2_with fail
                refine (On_any g h _ _ f9).mono ?_
                rintro e wz ⟨rfl, rfl⟩
                rw [qoff]
                go_wp2_with fail
                have Q6 := hide q6
                clear q6
                refine (Start_any g h _ _ f9).mono ?_
                rintro e w10 ⟨rfl, f10, k10⟩
                go_wp2_with fail
                refine (Open_0 g h _ _ f10 rfl (by show 512 ≤ s3.ws.length; have := HX.out.1; omega)).mono ?_
                rintro e w11 ⟨gk, hk, rfl, j11, k11, hgk, hhk⟩
                have f11 := k11.fl f10 (by simp) (by simp)
                have hs10 := k10.size
                have hs11 := k11.size
                have j11 : Jr w11 gk hk g 0 s3.ws ⟨r, N, false⟩ := by rw [← Q6.out]; exact j11
                clear f9 f10
                go_wp2_with fail
                refine (Last_any gk hk g 0 _ _ w11 j11).mono ?_
                rintro e w12 ⟨A12, n12, c12, rfl, o12, hA12, k12⟩
                have hlk := j11.lt
                have k912 : Keeps [g, h] w9 w12 := (k10.trans k11 (by simp)).trans k12 (by simp)
                obtain ⟨o9, b9, r9, k09⟩ := H9.out
                have b12 := k912.blk b9 (by simp; omega)
                have l12 : Row w12 w12.heap.size A1 n1 c1 (cs32 r) := Row.of_own (k912.own o9 (fun x e => by simp; exact ⟨(M4.out x e).2.1, (M4.out x e).2.2⟩))
                have x12 : Row w12 w12.heap.size A12 n12 c12 (cs32 (r)) := Row.of_own o12
                have hs12 := k12.size
                have r12 : Row w12 w12.heap.size oA on oc (cs32 ol) := (k912.row r9 (by omega) (by simp; omega)).more (by omega)
                have C12 : Hid (CrashAt w w12 g h (q + 1) gk hk (staS s3) A12 n12 c12 (r) (N)) := ⟨k12.fl f11 (by simp) (by simp), k12.jr j11 (by simp) (by simp), o12, (fun x e => by have := hA12 x e; omega), k09.trans k912 (by simp; omega), rfl, HX.out.1, HX.out.2, Q6.out, by omega, by omega, by omega, by omega⟩
                have R12 := hide r12
                have X12 := hide x12
                clear f11 j11 k10 k11 k12 k912 o9 b9 r9 k09 o12 hA12 H9 M4 r12
                go_wp2_with fail
                clear x12
                refine (Same_any _ _ _ _ _ _ _ _ r w12 X12.out l12).mono ?_
                rintro e wz ⟨kd1, rfl, rfl⟩
                have z12 : (w12.drewN kd1).cell? ⟨w5.heap.size, 1, none⟩ = some (.slice oA on oc) := (b12.drewN kd1).cell (j := 1) rfl
                clear l12 b12
                have hdN : decide ((0 : Int) < (N : Int)) = decide (0 < N) := by simp
                go_wp2_with fail
                refine (Same_dec _ _ _ _ _ _ _ _ r ol (w12.drewN kd1) (X12.out.of_drewN kd1) (R12.out.of_drewN kd1)).mono ?_
                rintro e wz ⟨kd2, rfl, rfl⟩
                clear z12
                generalize decide (r = ol) = bb
                rcases bb with _ | _
                all_goals
                  go_wp2_with fail
                  go_roundw
                  case rel => exact ⟨q + 1, gk, hk, staS s3, A12, n12, c12, r, N, by omega, by omega, by omega, by omega, rfl, rfl, by first | rfl | go_num, by go_num, C12.out.keep ((Keeps.refl [] w12).drewN (kd1 + kd2)) (Nat.le_refl _)⟩
                  case measure => simp [intOf]; omega
          · have t3 : (kd.tmod 2 == 1) = false := by rw [beq_eq_false_iff_ne]; exact hodd
            have k58 := hide k57
            have bo8 := bo7
            obtain ⟨s2, hs2'⟩ : ∃ s2 : FS, s2 = ⟨s.ws, s.on, s.ops, some (1048576, 0)⟩ := ⟨_, rfl⟩
            rw [← hs2'] at f7
            have HS2 : Hid (s2.ws = s.ws ∧ s2.on = s.on ∧ s2.ops = s.ops) := by rw [hs2']; exact ⟨rfl, rfl, rfl⟩
            have F8 := hide f7
            have B8 := hide bo8
            have z1 := bo8.cell (j := 1) rfl
            have hs8 : w5.heap.size < w7.heap.size := bo8.lt
            clear hs2' f7 k57 bo7 bo8 hodd
            go_wp2_with fail
            clear y0
            generalize w7 = w8 at k58 F8 B8 z1 hs8 ⊢
            obtain ⟨_, m2, m3, m4, m5, m6, m7, m8, m9, m10, m11, m12, m13⟩ := HCA.out
            obtain ⟨e1, e2, e3⟩ := HS2.out
            have hs5 := m5.size
            have j8 : Jr w8 gj hj g 0 s2.ws ⟨r, N, false⟩ := by rw [e1]; exact k58.out.jr m2 (by simp; exact ⟨m12, m13⟩) (by simp; exact ⟨m10, m11⟩)
            have r8 : Row w8 w.heap.size oA on oc (cs32 ol) := k58.out.row HRO.out (by omega) (by simp; omega)
            have hA8 : ∀ a, oA = some a → a.block ∉ [gj, g, h] := fun a ha => by
              obtain ⟨b9, o9, e9, hlt9, _⟩ := r8.cells (by omega)
              rw [e9] at ha; obtain rfl := Option.some.inj ha; simp; omega
            obtain ⟨a, s3, q1, q2, q3, q4, q5⟩ := crash_step (s := s2) (k := 0) (r := r) (o := ol) (N := N) (by rw [e2]; exact m6) (by rw [e1]; omega) (by rw [e1]; exact m9) (by omega) (by omega) (by omega)
            have HA := hide (Append_any gj hj g h 0 on oc oA ol ⟨r, N, false⟩ s2 w8 j8 m12 m13 m10 m11 F8.out (r8.more (by omega)) hA8 (by rw [e1]; omega) (by omega))
            rw [q1, q2] at HA
            have o8 := k58.out.own m3 (fun x e => by simp; exact ⟨(m4 x e).2.1, (m4 x e).2.2⟩)
            have HX : Hid (s3.ws.length = 512 ∧ s3.ops ≤ 70 * (q + 1)) := ⟨by rw [q3, e1]; exact m7, by omega⟩
            have H8 := hide (And.intro o8 (And.intro r8 (And.intro m4 (m5.trans k58.out (by simp; omega)))))
            have HM := hide (And.intro m12 m13)
            clear m2 m3 m4 m5 m6 m7 m8 m9 m10 m11 m12 m13 e1 e2 e3 j8 r8 hA8 q1 q2 q3 q4 o8 HCA HRO
            refine HA.out.mono ?_
            rintro e w9 ⟨rfl, f9, k9, hj9, hhj9, j9⟩
            obtain ⟨o8, r8, m4, k08⟩ := H8.out
            have hs9 := k9.size
            have o9 := k9.own o8 (fun x e => by simp; exact ⟨(m4 x e).1, (m4 x e).2.1, (m4 x e).2.2⟩)
            have b9 := k9.blk B8.out (by simp; omega)
            have r9 : Row w9 w.heap.size oA on oc (cs32 ol) := k9.row r8 (by omega) (by simp; omega)
            have k09 : Keeps [] w w9 := k08.trans k9 (by simp; omega)
            have H9 := hide (And.intro o9 (And.intro b9 (And.intro r9 k09)))
            have M4 := hide m4
            clear o8 r8 m4 k08 o9 b9 r9 k09 k9 j9 hhj9 H8 HA B8 F8 k58 HS2 z1 t1 t2 t3
            have hs9' : g < w9.heap.size ∧ h < w9.heap.size ∧ gj < w9.heap.size ∧ w5.heap.size < w9.heap.size := by omega
            rcases q5 with ⟨rfl, q6⟩ | ⟨rfl, qoff, q6⟩ | ⟨rfl, qoff, q6⟩
            · go_wp2_with fail
              have Q6 := hide q6
              clear q6
              refine (Start_any g h _ _ f9).mono ?_
              rintro e w10 ⟨rfl, f10, k10⟩
              go_wp2_with fail
              refine (Open_0 g h _ _ f10 rfl (by show 512 ≤ s3.ws.length; have := HX.out.1; omega)).mono ?_
              rintro e w11 ⟨gk, hk, rfl, j11, k11, hgk, hhk⟩
              have f11 := k11.fl f10 (by simp) (by simp)
              have hs10 := k10.size
              have hs11 := k11.size
              have j11 : Jr w11 gk hk g 0 s3.ws ⟨ol, N + 1, false⟩ := by rw [← Q6.out]; exact j11
              clear f9 f10
              go_wp2_with fail
              refine (Last_any gk hk g 0 _ _ w11 j11).mono ?_
              rintro e w12 ⟨A12, n12, c12, rfl, o12, hA12, k12⟩
              have hlk := j11.lt
              have k912 : Keeps [g, h] w9 w12 := (k10.trans k11 (by simp)).trans k12 (by simp)
              obtain ⟨o9, b9, r9, k09⟩ := H9.out
              have b12 := k912.blk b9 (by simp; omega)
              have l12 : Row w12 w12.heap.size A1 n1 c1 (cs32 r) := Row.of_own (k912.own o9 (fun x e => by simp; exact ⟨(M4.out x e).2.1, (M4.out x e).2.2⟩))
              have x12 : Row w12 w12.heap.size A12 n12 c12 (cs32 (ol)) := Row.of_own o12
              have hs12 := k12.size
              have r12 : Row w12 w12.heap.size oA on oc (cs32 ol) := (k912.row r9 (by omega) (by simp; omega)).more (by omega)
              have C12 : Hid (CrashAt w w12 g h (q + 1) gk hk (staS s3) A12 n12 c12 (ol) (N + 1)) := ⟨k12.fl f11 (by simp) (by simp), k12.jr j11 (by simp) (by simp), o12, (fun x e => by have := hA12 x e; omega), k09.trans k912 (by simp; omega), rfl, HX.out.1, HX.out.2, Q6.out, by omega, by omega, by omega, by omega⟩
              have R12 := hide r12
              have X12 := hide x12
              clear f11 j11 k10 k11 k12 k912 o9 b9 r9 k09 o12 hA12 H9 M4 r12
              go_wp2_with fail
              clear x12
              refine (Same_dec _ _ _ _ _ _ _ _ ol r w12 X12.out l12).mono ?_
              rintro e wz ⟨kd1, rfl, rfl⟩
              have z12 : (w12.drewN kd1).cell? ⟨w5.heap.size, 1, none⟩ = some (.slice oA on oc) := (b12.drewN kd1).cell (j := 1) rfl
              clear l12 b12
              generalize decide (ol = r) = bb
              rcases bb with _ | _
              all_goals
                go_wp2_with fail
                refine (Same_any _ _ _ _ _ _ _ _ ol (w12.drewN kd1) (X12.out.of_drewN kd1) (R12.out.of_drewN kd1)).mono ?_
                rintro e wz ⟨kd2, rfl, rfl⟩
                clear z12
                go_wp2_with fail
                go_roundw
                case rel => exact ⟨q + 1, gk, hk, staS s3, A12, n12, c12, ol, N + 1, by omega, by omega, by omega, by omega, rfl, rfl, by first | rfl | go_num, by go_num, C12.out.keep ((Keeps.refl [] w12).drewN (kd1 + kd2)) (Nat.le_refl _)⟩
                case measure => simp [intOf]; omega
            · go_wp2_with fail
              refine (On_any g h _ _ f9).mono ?_
              rintro e wz ⟨rfl, rfl⟩
              rw [qoff]
              go_wp2_with fail
              have Q6 := hide q6
              clear q6
              refine (Start_any g h _ _ f9).mono ?_
              rintro e w10 ⟨rfl, f10, k10⟩
              go_wp2_with fail
              refine (Open_0 g h _ _ f10 rfl (by show 512 ≤ s3.ws.length; have := HX.out.1; omega)).mono ?_
              rintro e w11 ⟨gk, hk, rfl, j11, k11, hgk, hhk⟩
              have f11 := k11.fl f10 (by simp) (by simp)
              have hs10 := k10.size
              have hs11 := k11.size
              have j11 : Jr w11 gk hk g 0 s3.ws ⟨ol, N + 1, false⟩ := by rw [← Q6.out]; exact j11
              clear f9 f10
              go_wp2_with fail
              refine (Last_any gk hk g 0 _ _ w11 j11).mono ?_
              rintro e w12 ⟨A12, n12, c12, rfl, o12, hA12, k12⟩
              have hlk := j11.lt
              have k912 : Keeps [g, h] w9 w12 := (k10.trans k11 (by simp)).trans k12 (by simp)
              obtain ⟨o9, b9, r9, k09⟩ := H9.out
              have b12 := k912.blk b9 (by simp; omega)
              have l12 : Row w12 w12.heap.size A1 n1 c1 (cs32 r) := Row.of_own (k912.own o9 (fun x e => by simp; exact ⟨(M4.out x e).2.1, (M4.out x e).2.2⟩))
              have x12 : Row w12 w12.heap.size A12 n12 c12 (cs32 (ol)) := Row.of_own o12
              have hs12 := k12.size
              have r12 : Row w12 w12.heap.size oA on oc (cs32 ol) := (k912.row r9 (by omega) (by simp; omega)).more (by omega)
              have C12 : Hid (CrashAt w w12 g h (q + 1) gk hk (staS s3) A12 n12 c12 (ol) (N + 1)) := ⟨k12.fl f11 (by simp) (by simp), k12.jr j11 (by simp) (by simp), o12, (fun x e => by have := hA12 x e; omega), k09.trans k912 (by simp; omega), rfl, HX.out.1, HX.out.2, Q6.out, by omega, by omega, by omega, by omega⟩
              have R12 := hide r12
              have X12 := hide x12
              clear f11 j11 k10 k11 k12 k912 o9 b9 r9 k09 o12 hA12 H9 M4 r12
              go_wp2_with fail
              clear x12
              refine (Same_dec _ _ _ _ _ _ _ _ ol r w12 X12.out l12).mono ?_
              rintro e wz ⟨kd1, rfl, rfl⟩
              have z12 : (w12.drewN kd1).cell? ⟨w5.heap.size, 1, none⟩ = some (.slice oA on oc) := (b12.drewN kd1).cell (j := 1) rfl
              clear l12 b12
              generalize decide (ol = r) = bb
              rcases bb with _ | _
              all_goals
                go_wp2_with fail
                refine (Same_any _ _ _ _ _ _ _ _ ol (w12.drewN kd1) (X12.out.of_drewN kd1) (R12.out.of_drewN kd1)).mono ?_
                rintro e wz ⟨kd2, rfl, rfl⟩
                clear z12
                go_wp2_with fail
                go_roundw
                case rel => exact ⟨q + 1, gk, hk, staS s3, A12, n12, c12, ol, N + 1, by omega, by omega, by omega, by omega, rfl, rfl, by first | rfl | go_num, by go_num, C12.out.keep ((Keeps.refl [] w12).drewN (kd1 + kd2)) (Nat.le_refl _)⟩
                case measure => simp [intOf]; omega
            · go_wp2_with fail
              refine (On_any g h _ _ f9).mono ?_
              rintro e wz ⟨rfl, rfl⟩
              rw [qoff]
              go_wp2_with fail
              have Q6 := hide q6
              clear q6
              refine (Start_any g h _ _ f9).mono ?_
              rintro e w10 ⟨rfl, f10, k10⟩
              go_wp2_with fail
              refine (Open_0 g h _ _ f10 rfl (by show 512 ≤ s3.ws.length; have := HX.out.1; omega)).mono ?_
              rintro e w11 ⟨gk, hk, rfl, j11, k11, hgk, hhk⟩
              have f11 := k11.fl f10 (by simp) (by simp)
              have hs10 := k10.size
              have hs11 := k11.size
              have j11 : Jr w11 gk hk g 0 s3.ws ⟨r, N, false⟩ := by rw [← Q6.out]; exact j11
              clear f9 f10
              go_wp2_with fail
              refine (Last_any gk hk g 0 _ _ w11 j11).mono ?_
              rintro e w12 ⟨A12, n12, c12, rfl, o12, hA12, k12⟩
              have hlk := j11.lt
              have k912 : Keeps [g, h] w9 w12 := (k10.trans k11 (by simp)).trans k12 (by simp)
              obtain ⟨o9, b9, r9, k09⟩ := H9.out
              have b12 := k912.blk b9 (by simp; omega)
              have l12 : Row w12 w12.heap.size A1 n1 c1 (cs32 r) := Row.of_own (k912.own o9 (fun x e => by simp; exact ⟨(M4.out x e).2.1, (M4.out x e).2.2⟩))
              have x12 : Row w12 w12.heap.size A12 n12 c12 (cs32 (r)) := Row.of_own o12
              have hs12 := k12.size
              have r12 : Row w12 w12.heap.size oA on oc (cs32 ol) := (k912.row r9 (by omega) (by simp; omega)).more (by omega)
              have C12 : Hid (CrashAt w w12 g h (q + 1) gk hk (staS s3) A12 n12 c12 (r) (N)) := ⟨k12.fl f11 (by simp) (by simp), k12.jr j11 (by simp) (by simp), o12, (fun x e => by have := hA12 x e; omega), k09.trans k912 (by simp; omega), rfl, HX.out.1, HX.out.2, Q6.out, by omega, by omega, by omega, by omega⟩
              have R12 := hide r12
              have X12 := hide x12
              clear f11 j11 k10 k11 k12 k912 o9 b9 r9 k09 o12 hA12 H9 M4 r12
              go_wp2_with fail
              clear x12
              refine (Same_any _ _ _ _ _ _ _ _ r w12 X12.out l12).mono ?_
              rintro e wz ⟨kd1, rfl, rfl⟩
              have z12 : (w12.drewN kd1).cell? ⟨w5.heap.size, 1, none⟩ = some (.slice oA on oc) := (b12.drewN kd1).cell (j := 1) rfl
              clear l12 b12
              have hdN : decide ((0 : Int) < (N : Int)) = decide (0 < N) := by simp
              go_wp2_with fail
              refine (Same_dec _ _ _ _ _ _ _ _ r ol (w12.drewN kd1) (X12.out.of_drewN kd1) (R12.out.of_drewN kd1)).mono ?_
              rintro e wz ⟨kd2, rfl, rfl⟩
              clear z12
              generalize decide (r = ol) = bb
              rcases bb with _ | _
              all_goals
                go_wp2_with fail
                go_roundw
                case rel => exact ⟨q + 1, gk, hk, staS s3, A12, n12, c12, r, N, by omega, by omega, by omega, by omega, rfl, rfl, by first | rfl | go_num, by go_num, C12.out.keep ((Keeps.refl [] w12).drewN (kd1 + kd2)) (Nat.le_refl _)⟩
                case measure => simp [intOf]; omega
        · have key : (decide ((on : Int) < 1) = true) ∨ (decide ((on : Int) < 1) = false ∧ decide ((64 : Int) < (on : Int)) = true) := by
            simp only [decide_eq_true_eq, decide_eq_false_iff_not]; omega
          rcases key with t1 | ⟨t1, t2⟩
          all_goals
            go_wp2_with fail
            go_roundw
            case rel => exact ⟨q + 1, gj, hj, s, A1, n1, c1, r, N, by omega, by omega, by omega, hgj, rfl, rfl, rfl, by go_num, HCA.out.keep HB.out.2.1 (by omega)⟩
            case measure => simp [intOf]; omega
      · have HK := hide CA.2.2.2.2.1
        clear CA hr
        have hi1 : (q : Int) < (n : Int) := by omega
        have t9 : decide ((q : Int) < 40) = false := by simp; omega
        go_wp2_with fail
        refine (known_any _).mono ?_
        rintro e w9 ⟨rfl, k9⟩
        go_wp2
        go_ret
        exact ⟨rfl, (HK.out.trans k9 (by simp)).back⟩
    · have HK := hide CA.2.2.2.2.1
      clear CA hr
      have t9 : decide ((q : Int) < (n : Int)) = false := by simp; omega
      go_wp2_with fail
      refine (known_any _).mono ?_
      rintro e w9 ⟨rfl, k9⟩
      go_wp2
      go_ret
      exact ⟨rfl, (HK.out.trans k9 (by simp)).back⟩
end Go.Proofs.Ytfchfmekpealjaa
