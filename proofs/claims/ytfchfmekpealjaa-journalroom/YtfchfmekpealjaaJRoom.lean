/-
  The walk of the law JournalRoom.
-/
import Derived.Test.YtfchfmekpealjaaJKnown
namespace Go.Proofs.Ytfchfmekpealjaa
open Go.RowKit
set_option maxHeartbeats 4000000

theorem opS_none2 {s : FS} (h : s.plan = none) (eff : UInt32 → List UInt32) (wh : UInt32) : (opS s eff wh).plan = none := by
  obtain ⟨ws, on, ops, plan⟩ := s
  subst h
  rfl
theorem proS_none {s : FS} (h : s.plan = none) (a : Int) (v : UInt32) : (proS s a v).plan = none := by
  unfold proS; split
  · exact opS_none2 h _ _
  · exact h
theorem eraS_none {s : FS} (h : s.plan = none) (a : Int) : (eraS s a).plan = none := by
  unfold eraS; split
  · exact opS_none2 h _ _
  · exact h
theorem progsS_none (l : List UInt32) : ∀ (s : FS) (a : Nat), s.plan = none → (progsS s a l).plan = none := by
  induction l with
  | nil => intro s a h; exact h
  | cons v l ih =>
    intro s a h
    rw [progsS]
    split
    · exact ih _ _ (proS_none h _ _)
    · exact proS_none h _ _
theorem appS_none {s : FS} (h : s.plan = none) (k : Nat) (r : List UInt32) : (appS s k r).plan = none := by
  unfold appS; split
  · exact progsS_none _ _ _ h
  · split
    · exact progsS_none _ _ _ (eraS_none h _)
    · exact eraS_none h _
/-- An Append onto a journal that is at work, with the power on and no failure planned, is whole. -/
theorem app_whole {s : FS} {k : Nat} {j : JS} {r : List UInt32} (hon : s.on = true) (hp : s.plan = none) (hk : 256 * (k + 2) ≤ s.ws.length) (hd : j.dead = false) (hj : j.num = (curV s.ws k).num) (h1 : 1 ≤ r.length) (h2 : r.length ≤ 64) (hn : j.num < 2147483647) :
    jE s k j r = 0 ∧ jS s k j r = appS s k r ∧ jJ s k j r = ⟨r, j.num + 1, false⟩ ∧ AppOk s k r (appS s k r) ∧ (appS s k r).ws.length = s.ws.length := by
  have h3 : ¬ (j.dead = true ∨ s.on = false) := by rw [hd, hon]; simp
  have h4 : ¬ bigB j r := by unfold bigB; omega
  obtain ⟨_, hl, h⟩ := app_spec s k r hon hk h1 h2 (by omega)
  rcases h with ⟨h5, ok⟩ | ⟨_, t⟩
  · unfold jE jS jJ
    rw [if_neg h3, if_neg h3, if_neg h3, if_neg h4, if_neg h4, if_neg h4, if_pos h5]
    exact ⟨h5, rfl, rfl, ok, hl⟩
  · obtain ⟨i, x, hx⟩ := t.plan
    rw [hp] at hx; cases hx
def roomL (i k : Nat) : List UInt32 := (List.range k).map fun q => word (i * 1000 + q)
theorem roomL_len (i k : Nat) : (roomL i k).length = k := by simp [roomL]
theorem roomL_succ (i k : Nat) : roomL i (k + 1) = roomL i k ++ [word (i * 1000 + k)] := by simp [roomL, List.range_succ]
def sizeZ (l : List UInt8) (q : Nat) : Nat := if 0 < l.length then 1 + (l.getD (q % l.length) 0).toNat % 64 else 1
theorem sizeZ_b (l : List UInt8) (q : Nat) : 1 ≤ sizeZ l q ∧ sizeZ l q ≤ 64 := by unfold sizeZ; split <;> omega
theorem sizeZ_wrap {l : List UInt8} {q p : Nat} (hp : p = q % l.length) (hpl : p < l.length) : wrap64 (1 + (wrap64 (l[p].toNat : Int)).tmod 64) = (sizeZ l q : Int) := by
  obtain ⟨y, hy⟩ : ∃ y, y = l[p].toNat := ⟨_, rfl⟩
  have hyb : y < 256 := by rw [hy]; exact l[p].toNat_lt
  have hz : sizeZ l q = 1 + y % 64 := by
    unfold sizeZ
    rw [if_pos (by omega), ← hp, List.getD_eq_getElem?_getD, List.getElem?_eq_getElem hpl, hy]; rfl
  rw [← hy, hz]
  have e1 : wrap64 (y : Int) = y := by unfold wrap64; omega
  rw [e1, Int.tmod_eq_emod_of_nonneg (by omega)]
  unfold wrap64; omega
set_option maxRecDepth 10000 in
theorem room_walk (A : Option Addr) (n c : Nat) (l : List UInt8) (v : Int) (w : World) (hr : Row w w.heap.size A n c (cs8 l)) (hv : (Lit.int .u8 v).wf = true) :
    Calls Try.prog 6 #[.slice A n c, .int .u8 v] w fun e w' => e = .returned (.bool true) ∧ Below w.heap.size w w' := by
  have hv2 : 0 ≤ v ∧ v ≤ 255 := by simpa [Lit.wf, IntKind.min, IntKind.max, IntKind.signed, IntKind.bits] using hv
  obtain ⟨m, hm, hmb⟩ : ∃ m : Nat, v % 60 = (m : Int) ∧ m < 60 := ⟨(v % 60).toNat, by omega, by omega⟩
  have hm2 : v.tmod 60 = (m : Int) := by rw [Int.tmod_eq_emod_of_nonneg hv2.1]; exact hm
  obtain ⟨i0, hi, hz0, hz1, hz2⟩ := info_parts info32
  have hln := hr.len
  rw [cs8_len] at hln
  have HMX := hide hr.max
  have hcap := hr.cap
  clear hv
  go_enter Try.func6, Try.ntmps6
  go_wp2_with fail
  refine (New_2 w).mono ?_
  rintro e w1 ⟨g, h, rfl, f1, k1, hg, hh⟩
  have l1 := f1.lt
  have l2 := f1.lt2
  go_wp2_with fail
  refine (Open_0 g h _ w1 f1 rfl (by rw [new_len]; omega)).mono ?_
  rintro e w2 ⟨gj, hj, rfl, j2, k2, hgj, hhj⟩
  rw [new_opJ (by omega)] at j2
  have f2 := k2.fl f1 (by simp) (by simp)
  have k02 : Keeps [] w w2 := k1.trans k2 (by simp)
  have lj := j2.lt
  have hs2 := k2.size
  clear f1 k1 k2
  go_wp2_with fail
  go_loopw [8] (fun i wr => ∃ (q hj : Nat) (s : FS) (r : List UInt32), q ≤ m ∧ i = .int .i64 (q : Int) ∧ Fl wr g h s ∧ Jr wr gj hj g 0 s.ws ⟨r, q, false⟩ ∧ Keeps [] w wr ∧ Hid (s.on = true ∧ s.plan = none ∧ s.ws.length = 512 ∧ s.ops ≤ 70 * q) ∧ hj ≠ g ∧ hj ≠ h ∧ w.heap.size ≤ hj ∧ w2.heap.size ≤ wr.heap.size) (fun i _ => m - (intOf i).toNat)
  case atStart => exact ⟨0, hj, newS 2, [], Nat.zero_le _, rfl, f2, j2, k02, ⟨rfl, rfl, new_len 2, Nat.zero_le _⟩, by omega, by omega, by omega, Nat.le_refl _⟩
  case round =>
    clear f2 j2 k02
    generalize wr = w5 at hrel ⊢
    obtain ⟨q, hj', s, r, hq, rfl, f, j, kk, HS, n1, n2, n3, n4⟩ := hrel
    by_cases hlt : q < m
    · obtain ⟨z, hz⟩ : ∃ z : Nat, z = sizeZ l q := ⟨_, rfl⟩
      have hzb : 1 ≤ z ∧ z ≤ 64 := by rw [hz]; exact sizeZ_b l q
      by_cases h0 : 0 < n
      · have d0 : decide ((0 : Int) < (n : Int)) = true := by simp; omega
        obtain ⟨p, hp⟩ : ∃ p, p = q % n := ⟨_, rfl⟩
        have hpn : p < n := by rw [hp]; exact Nat.mod_lt _ h0
        have hpi : (q : Int) % (n : Int) = (p : Int) := by rw [hp]; exact (Int.natCast_emod q n).symm
        obtain ⟨b, o, u, rfl, _, hu, hcell⟩ := (kk.row hr (Nat.le_refl _) (by simp)).get hpn
        have hpl : p < l.length := by omega
        rw [cs8_at hpl] at hu
        obtain rfl := Option.some.inj hu
        have hwz := sizeZ_wrap (l := l) (q := q) (by rw [hln]; exact hp) hpl
        rw [← hz] at hwz
        obtain ⟨y, hy⟩ : ∃ y : Nat, y = l[p].toNat := ⟨_, rfl⟩
        rw [← hy] at hcell hwz
        have HZ := hide hz
        have HY := hide hy
        have HJ := hide (And.intro f (And.intro j kk))
        have HR := hide hr
        have HP := hide hp
        clear hu hy hz hp f j kk hr
        go_wp2_with fail
        rw [hwz]
        clear hwz hpi hpn d0 hcell hm hm2
        go_loopw [10, 11] (fun sl i wx => ∃ (t : Nat) (A' : Option Addr) (c' : Nat), t ≤ z ∧ i = .int .i64 (t : Int) ∧ sl = .slice A' t c' ∧ wx.ownsRow w5.heap.size 37 1 (.slice A' t c') t (cs32 (roomL q t)) ∧ Below w5.heap.size w5 wx) (fun _ i _ => z - (intOf i).toNat)
        case atStart => exact ⟨0, none, 0, Nat.zero_le _, rfl, rfl, World.ownsRow_nil _ _ _ _, Below.refl _ _⟩
        case round =>
          obtain ⟨t, A', c', ht, rfl, rfl, ho, hb⟩ := hrel
          have hbs := hb.size
          by_cases htz : t < z
          · have HE := hide (show cs32 (roomL q (t + 1)) = cs32 (roomL q t) ++ [.int .u32 ((word (q * 1000 + t)).toNat : Int)] by rw [roomL_succ, cs32_snoc])
            have HWD : Hid ((q : Int) * 1000 + (t : Int) = ((word (q * 1000 + t)).toNat : Int)) := (by show _ = _; rw [word_toNat]; omega)
            go_wp2_with (at_builtin; refine wpList_append_row rfl (.tmp 55) (.tmp 61) 36 rfl w5.heap.size 37 i0 _ 4 Try.underlying36 hi hz0 hz1 hz2 rfl _ _ _ rfl (ho.alloc _) _ _ _ _ _ rfl (Row.one _ _ _) (one_u32 _) (by unfold maxLen; omega) (by omega) w5 (hb.alloc (by omega) _) (Nat.le_refl _) ?_; intro A2 c2 w6 ho2 hb2 hg2)
            rw [HWD.out, ← HE.out] at ho2
            go_roundw
            case rel => exact ⟨t + 1, A2, c2, by omega, by go_num, rfl, ho2, hb2⟩
            case measure => simp [intOf]; omega
          · obtain rfl : z = t := by omega
            go_wp2_with fail
            have k6 : Keeps [] w5 wr := Keeps.of_below hb
            have f6 := k6.fl HJ.out.1 (by simp) (by simp)
            have j6 := k6.jr HJ.out.2.1 (by simp) (by simp)
            have k06 : Keeps [] w wr := HJ.out.2.2.trans k6 (by simp)
            have hA6 : ∀ a, A' = some a → a.block ∉ [gj, g, h] := fun a ha => by
              rcases own_addr ho with h1 | ⟨g9, h1, h2, _⟩
              · rw [h1] at ha; cases ha
              · rw [h1] at ha; obtain rfl := Option.some.inj ha; simp; omega
            have r6 := Row.of_own ho
            obtain ⟨p1, p2, p3, p4⟩ := HS.out
            obtain ⟨q1, q2, q3, ok, hl7⟩ := app_whole (s := s) (k := 0) (j := ⟨r, q, false⟩) (r := roomL q z) p1 p2 (by omega) rfl (by obtain ⟨_, _, _, _, _, _, _, _, _, _, hx⟩ := j6.ex; exact (hx rfl).2.2.2.2.1) (by rw [roomL_len]; omega) (by rw [roomL_len]; omega) (by show q < _; omega)
            have hp7 := appS_none p2 0 (roomL q z)
            have hon7 := ok.on
            have hops7 : (appS s 0 (roomL q z)).ops = s.ops + z + 4 ∨ (appS s 0 (roomL q z)).ops = s.ops + z + 5 := by
              have h1 := ok.ops
              rw [roomL_len] at h1
              split at h1 <;> omega
            have HA := hide (Append_any gj hj' g h 0 z c' A' (roomL q z) ⟨r, q, false⟩ s wr j6 (by omega) (by omega) n1 n2 f6 r6 hA6 (by omega) (by omega))
            rw [q1, q2, q3] at HA
            obtain ⟨s7, hs7⟩ : ∃ s7, s7 = appS s 0 (roomL q z) := ⟨_, rfl⟩
            rw [← hs7] at HA hp7 hon7 hops7 hl7
            obtain ⟨o1, ho1⟩ : ∃ o1, o1 = s.ops := ⟨_, rfl⟩
            obtain ⟨o2, ho2⟩ : ∃ o2, o2 = s7.ops := ⟨_, rfl⟩
            rw [← ho1, ← ho2] at hops7
            have hob : o1 ≤ 4200 := by omega
            have HQ : Hid (s7.on = true ∧ s7.plan = none ∧ s7.ws.length = 512 ∧ s7.ops ≤ 70 * (q + 1)) := ⟨hon7, hp7, by omega, by omega⟩
            have HO := hide (And.intro ho1 ho2)
            have HB := hide k06
            have HRO := hide (And.intro ho hA6)
            have hsx : w5.heap.size ≤ wr.heap.size := hbs
            clear q1 q2 q3 ok hl7 hp7 hon7 hs7 p1 p2 p3 p4 ho1 ho2 k06 k6 hA6 r6 ho hb HS j6
            refine (Ops_any g h _ _ f6).mono ?_
            rintro e w9 ⟨rfl, rfl⟩
            rw [← HO.out.1]
            clear f6
            go_wp2_with fail
            refine HA.out.mono ?_
            rintro e w7 ⟨rfl, f7, k7, hj7, hhj7, j7⟩
            go_wp2_with fail
            refine (Ops_any g h _ _ f7).mono ?_
            rintro e w9 ⟨rfl, rfl⟩
            rw [← HO.out.2]
            go_wp2_with fail
            refine (Last_any gj hj7 g 0 _ _ w7 j7).mono ?_
            rintro e w8 ⟨A8, n8, c8, rfl, ho8, hA8, k8⟩
            have f8 := k8.fl f7 (by simp) (by simp)
            have j8 := k8.jr j7 (by simp) (by simp)
            have hs7 := k7.size
            have hs8 := k8.size
            have k08 : Keeps [] w w8 := (HB.out.trans k7 (by simp; omega)).trans k8 (by simp)
            have r8 := Row.of_own ho8
            have r9 : Row w8 w8.heap.size A' z c' (cs32 (roomL q z)) := (Row.of_own (k8.own (k7.own HRO.out.1 (fun g9 e9 => HRO.out.2 _ e9)) (by simp)))
            have HF := hide (And.intro f8 (And.intro j8 k08))
            have d8 : decide (0 < q + 1) = true := by simp
            clear f7 j7 k7 k8 f8 j8 k08 ho8 hA8 HRO HA
            rcases hops7 with hops7 | hops7
            all_goals
              go_wp2_with (go_at_call 16; refine (Same_any _ _ _ _ _ _ _ _ (roomL q z) w8 r8 r9).mono ?_; rintro e w9 ⟨kd, rfl, rfl⟩)
              go_roundw
              case rel => exact ⟨q + 1, hj7, s7, roomL q z, by omega, by go_num, (HF.out.2.2.drewN kd) |> fun _ => ((Keeps.refl [] w8).drewN kd).fl HF.out.1 (by simp) (by simp), ((Keeps.refl [] w8).drewN kd).jr HF.out.2.1 (by simp) (by simp), HF.out.2.2.drewN kd, HQ, by rcases hhj7 with h1 | h1 <;> omega, by rcases hhj7 with h1 | h1 <;> omega, by rcases hhj7 with h1 | h1 <;> omega, by show _ ≤ w8.heap.size; omega⟩
              case measure => simp [intOf]; omega
      · have d0 : decide ((0 : Int) < (n : Int)) = false := by simp; omega
        obtain rfl : z = 1 := by rw [hz]; unfold sizeZ; rw [if_neg (by omega)]
        have HJ := hide (And.intro f (And.intro j kk))
        have HR := hide hr
        clear hz f j kk hr
        go_wp2_with fail
        clear d0 hm hm2
        go_loopw [10, 11] (fun sl i wx => ∃ (t : Nat) (A' : Option Addr) (c' : Nat), t ≤ 1 ∧ i = .int .i64 (t : Int) ∧ sl = .slice A' t c' ∧ wx.ownsRow w5.heap.size 37 1 (.slice A' t c') t (cs32 (roomL q t)) ∧ Below w5.heap.size w5 wx) (fun _ i _ => 1 - (intOf i).toNat)
        case atStart => exact ⟨0, none, 0, Nat.zero_le _, rfl, rfl, World.ownsRow_nil _ _ _ _, Below.refl _ _⟩
        case round =>
          obtain ⟨t, A', c', ht, rfl, rfl, ho, hb⟩ := hrel
          have hbs := hb.size
          by_cases htz : t < 1
          · have HE := hide (show cs32 (roomL q (t + 1)) = cs32 (roomL q t) ++ [.int .u32 ((word (q * 1000 + t)).toNat : Int)] by rw [roomL_succ, cs32_snoc])
            have HWD : Hid ((q : Int) * 1000 + (t : Int) = ((word (q * 1000 + t)).toNat : Int)) := (by show _ = _; rw [word_toNat]; omega)
            go_wp2_with (at_builtin; refine wpList_append_row rfl (.tmp 55) (.tmp 61) 36 rfl w5.heap.size 37 i0 _ 4 Try.underlying36 hi hz0 hz1 hz2 rfl _ _ _ rfl (ho.alloc _) _ _ _ _ _ rfl (Row.one _ _ _) (one_u32 _) (by unfold maxLen; omega) (by omega) w5 (hb.alloc (by omega) _) (Nat.le_refl _) ?_; intro A2 c2 w6 ho2 hb2 hg2)
            rw [HWD.out, ← HE.out] at ho2
            go_roundw
            case rel => exact ⟨t + 1, A2, c2, by omega, by go_num, rfl, ho2, hb2⟩
            case measure => simp [intOf]; omega
          · obtain rfl : t = 1 := by omega
            go_wp2_with fail
            have k6 : Keeps [] w5 wr := Keeps.of_below hb
            have f6 := k6.fl HJ.out.1 (by simp) (by simp)
            have j6 := k6.jr HJ.out.2.1 (by simp) (by simp)
            have k06 : Keeps [] w wr := HJ.out.2.2.trans k6 (by simp)
            have hA6 : ∀ a, A' = some a → a.block ∉ [gj, g, h] := fun a ha => by
              rcases own_addr ho with h1 | ⟨g9, h1, h2, _⟩
              · rw [h1] at ha; cases ha
              · rw [h1] at ha; obtain rfl := Option.some.inj ha; simp; omega
            have r6 := Row.of_own ho
            obtain ⟨p1, p2, p3, p4⟩ := HS.out
            obtain ⟨q1, q2, q3, ok, hl7⟩ := app_whole (s := s) (k := 0) (j := ⟨r, q, false⟩) (r := roomL q 1) p1 p2 (by omega) rfl (by obtain ⟨_, _, _, _, _, _, _, _, _, _, hx⟩ := j6.ex; exact (hx rfl).2.2.2.2.1) (by rw [roomL_len]; omega) (by rw [roomL_len]; omega) (by show q < _; omega)
            have hp7 := appS_none p2 0 (roomL q 1)
            have hon7 := ok.on
            have hops7 : (appS s 0 (roomL q 1)).ops = s.ops + 1 + 4 ∨ (appS s 0 (roomL q 1)).ops = s.ops + 1 + 5 := by
              have h1 := ok.ops
              rw [roomL_len] at h1
              split at h1 <;> omega
            have HA := hide (Append_any gj hj' g h 0 1 c' A' (roomL q 1) ⟨r, q, false⟩ s wr j6 (by omega) (by omega) n1 n2 f6 r6 hA6 (by omega) (by omega))
            rw [q1, q2, q3] at HA
            obtain ⟨s7, hs7⟩ : ∃ s7, s7 = appS s 0 (roomL q 1) := ⟨_, rfl⟩
            rw [← hs7] at HA hp7 hon7 hops7 hl7
            obtain ⟨o1, ho1⟩ : ∃ o1, o1 = s.ops := ⟨_, rfl⟩
            obtain ⟨o2, ho2⟩ : ∃ o2, o2 = s7.ops := ⟨_, rfl⟩
            rw [← ho1, ← ho2] at hops7
            have hob : o1 ≤ 4200 := by omega
            have HQ : Hid (s7.on = true ∧ s7.plan = none ∧ s7.ws.length = 512 ∧ s7.ops ≤ 70 * (q + 1)) := ⟨hon7, hp7, by omega, by omega⟩
            have HO := hide (And.intro ho1 ho2)
            have HB := hide k06
            have HRO := hide (And.intro ho hA6)
            have hsx : w5.heap.size ≤ wr.heap.size := hbs
            clear q1 q2 q3 ok hl7 hp7 hon7 hs7 p1 p2 p3 p4 ho1 ho2 k06 k6 hA6 r6 ho hb HS j6
            refine (Ops_any g h _ _ f6).mono ?_
            rintro e w9 ⟨rfl, rfl⟩
            rw [← HO.out.1]
            clear f6
            go_wp2_with fail
            refine HA.out.mono ?_
            rintro e w7 ⟨rfl, f7, k7, hj7, hhj7, j7⟩
            go_wp2_with fail
            refine (Ops_any g h _ _ f7).mono ?_
            rintro e w9 ⟨rfl, rfl⟩
            rw [← HO.out.2]
            go_wp2_with fail
            refine (Last_any gj hj7 g 0 _ _ w7 j7).mono ?_
            rintro e w8 ⟨A8, n8, c8, rfl, ho8, hA8, k8⟩
            have f8 := k8.fl f7 (by simp) (by simp)
            have j8 := k8.jr j7 (by simp) (by simp)
            have hs7 := k7.size
            have hs8 := k8.size
            have k08 : Keeps [] w w8 := (HB.out.trans k7 (by simp; omega)).trans k8 (by simp)
            have r8 := Row.of_own ho8
            have r9 : Row w8 w8.heap.size A' 1 c' (cs32 (roomL q 1)) := (Row.of_own (k8.own (k7.own HRO.out.1 (fun g9 e9 => HRO.out.2 _ e9)) (by simp)))
            have HF := hide (And.intro f8 (And.intro j8 k08))
            have d8 : decide (0 < q + 1) = true := by simp
            clear f7 j7 k7 k8 f8 j8 k08 ho8 hA8 HRO HA
            rcases hops7 with hops7 | hops7
            all_goals
              go_wp2_with (go_at_call 16; refine (Same_any _ _ _ _ _ _ _ _ (roomL q 1) w8 r8 r9).mono ?_; rintro e w9 ⟨kd, rfl, rfl⟩)
              go_roundw
              case rel => exact ⟨q + 1, hj7, s7, roomL q 1, by omega, by go_num, (HF.out.2.2.drewN kd) |> fun _ => ((Keeps.refl [] w8).drewN kd).fl HF.out.1 (by simp) (by simp), ((Keeps.refl [] w8).drewN kd).jr HF.out.2.1 (by simp) (by simp), HF.out.2.2.drewN kd, HQ, by rcases hhj7 with h1 | h1 <;> omega, by rcases hhj7 with h1 | h1 <;> omega, by rcases hhj7 with h1 | h1 <;> omega, by show _ ≤ w8.heap.size; omega⟩
              case measure => simp [intOf]; omega
    · have HK := hide kk
      clear f j kk hr HS
      go_wp2_with fail
      refine (known_any _).mono ?_
      rintro e w9 ⟨rfl, k9⟩
      go_wp2
      go_ret
      exact ⟨rfl, (HK.out.trans k9 (by simp)).back⟩
end Go.Proofs.Ytfchfmekpealjaa
