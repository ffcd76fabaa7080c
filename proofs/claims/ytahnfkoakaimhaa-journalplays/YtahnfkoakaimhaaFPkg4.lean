/-
  Contracts of package flash: the effect erase; operate; Program; Erase.
-/
import Derived.Test.YtahnfkoakaimhaaFPkg3
namespace Go.Proofs.Ytahnfkoakaimhaa
open Go.RowKit
set_option maxHeartbeats 400000

theorem erase_any (h a n c c2 : Nat) (ws : List UInt32) (m : UInt32) (w : World) (ho : w.ownsRow 0 37 1 (.slice (some ⟨h, 0, none⟩) n c) n (cs32 ws)) (ha : a + 256 ≤ n) :
    Calls Try.prog 63 #[.agg #[.slice (some ⟨h, a, none⟩) 256 c2], .int .u32 (m.toNat : Int)] w fun e w' => e = .returned (.tuple #[]) ∧ w'.ownsRow 0 37 1 (.slice (some ⟨h, 0, none⟩) n c) n (cs32 (eraW ws a m)) ∧ Keeps [h] w w' := by
  have hln := own32_len ho
  obtain ⟨k, hk, hk2⟩ : ∃ k : Nat, k = m.toNat % 257 ∧ k ≤ 256 := ⟨_, rfl, by omega⟩
  have hki : (m.toNat : Int) % 257 = (k : Int) := by omega
  have HE := hide (show eraW ws a m = fillW ws a k by unfold eraW; rw [hk])
  have hml := m.toNat_lt
  go_enter Try.func63, Try.ntmps63
  go_wp2
  have hb := Blk.new w 103 [.slice (some ⟨h, a, none⟩) 256 c2]
  have hkp := (Keeps.refl [h] w).alloc (.cells #[.slice (some ⟨h, a, none⟩) 256 c2] 103)
  have ho1 := ho.alloc (.cells #[.slice (some ⟨h, a, none⟩) 256 c2] 103)
  have hlt := own_lt ho
  generalize w.alloc _ = w1 at hb ho1 hkp ⊢
  have hne : w.heap.size ≠ h := by omega
  generalize w.heap.size = g1 at hb hne ⊢
  clear ho hk hlt
  go_loopw [7] (fun i wr => ∃ j : Nat, j ≤ k ∧ i = .int .u32 (j : Int) ∧ Blk wr g1 103 [.slice (some ⟨h, a, none⟩) 256 c2] ∧ wr.ownsRow 0 37 1 (.slice (some ⟨h, 0, none⟩) n c) n (cs32 (fillW ws a j)) ∧ Keeps [h] w wr) (fun i _ => k - (intOf i).toNat)
  case atStart => exact ⟨0, Nat.zero_le _, rfl, hb, ho1, hkp⟩
  case round =>
    clear hb ho1 hkp
    obtain ⟨j, hj, rfl, hb, ho, hkp⟩ := hrel
    have b0 := hb.cell (j := 0) rfl
    by_cases hlt : j < k
    · have hl2 := fillW_len ws a j
      have hjl : a + j < (fillW ws a j).length := by omega
      have hc := ho.cellAt (a + j) (by omega)
      rw [cs32_at hjl] at hc
      have hz := ho.frozenAt (a + j)
      have hst := ho.stored (a + j) (.int .u32 (ones32.toNat : Int))
      rw [cs32_set] at hst
      rw [show (ones32.toNat : Int) = 4294967295 from rfl] at hst
      have HST := hide hst
      have HB := hide (hb.other hne (a + j) (.int .u32 4294967295))
      have HL := hide hl2
      clear hb ho hst hl2
      go_wp2
      go_roundw
      case rel => exact ⟨j + 1, by omega, by go_num, HB.out, HST.out.1, hkp.trans (Keeps.of_grown HST.out.2) (by simp)⟩
      case measure => simp [intOf]; omega
    · obtain rfl : j = k := by omega
      go_wp2
      go_end0
      exact ⟨rfl, by rw [HE.out]; exact ho, hkp⟩
def flN (h c n : Nat) (s : FS) : List Value :=
  [.slice (some ⟨h, 0, none⟩) n c, .bool s.on, .int .i64 (s.ops : Int), .bool (planB s.plan), .int .i64 (leftN s.plan : Int), .int .u32 ((maskP s.plan).toNat : Int)]
theorem Fl.of {w : World} {g h c n : Nat} {ws : List UInt32} {on : Bool} {ops : Nat} {plan : Option (Nat × UInt32)} {cs : List Value} (hok : FS.Ok ⟨ws, on, ops, plan⟩) (hne : g ≠ h) (hb : Blk w g 60 cs) (ho : w.ownsRow 0 37 1 (.slice (some ⟨h, 0, none⟩) n c) n (cs32 ws)) (hcs : cs = flN h c n ⟨[], on, ops, plan⟩) : Fl w g h ⟨ws, on, ops, plan⟩ := by
  obtain rfl := own32_len ho
  subst hcs
  exact ⟨hok, hne, c, hb, ho⟩
theorem nat_one (n : Nat) : ((n + 1 : Nat) : Int) = (n : Int) + 1 := by omega
theorem erase_all (h a n c c2 : Nat) (ws : List UInt32) (w : World) (ho : w.ownsRow 0 37 1 (.slice (some ⟨h, 0, none⟩) n c) n (cs32 ws)) (ha : a + 256 ≤ n) :
    Calls Try.prog 63 #[.agg #[.slice (some ⟨h, a, none⟩) 256 c2], .int .u32 256] w fun e w' => e = .returned (.tuple #[]) ∧ w'.ownsRow 0 37 1 (.slice (some ⟨h, 0, none⟩) n c) n (cs32 (eraW ws a s256)) ∧ Keeps [h] w w' := by
  have := erase_any h a n c c2 ws s256 w ho ha
  rwa [s256_toNat, show ((256 : Nat) : Int) = 256 from rfl] at this
theorem clear_all (h : Nat) (k : Nat) (n c : Nat) (ws : List UInt32) (v : UInt32) (w : World) (ho : w.ownsRow 0 37 1 (.slice (some ⟨h, 0, none⟩) n c) n (cs32 ws)) (hk : k < n) :
    Calls Try.prog 64 #[.agg #[.pointer (some ⟨h, k, none⟩), .int .u32 ((iU v).toNat : Int)], .int .u32 4294967295] w fun e w' => e = .returned (.tuple #[]) ∧ w'.ownsRow 0 37 1 (.slice (some ⟨h, 0, none⟩) n c) n (cs32 (proW ws k v ones32)) ∧ Keeps [h] w w' := by
  have := clear_any h k n c ws v ones32 w ho hk
  rwa [ones32_toNat, show ((4294967295 : Nat) : Int) = 4294967295 from rfl] at this
theorem operateP (g h : Nat) (ws : List UInt32) (on : Bool) (ops : Nat) (plan : Option (Nat × UInt32)) (k0 : Nat) (hk0 : k0 < ws.length) (v : UInt32) (w : World) (f : Fl w g h ⟨ws, on, ops, plan⟩) (c : Nat) (hb : Blk w g 60 (flC h c ⟨ws, on, ops, plan⟩)) (ho : w.ownsRow 0 37 1 (.slice (some ⟨h, 0, none⟩) ws.length c) ws.length (cs32 ws)) (hops : ops ≤ 4611686018427387904) :
    Calls Try.prog 62 #[.pointer (some ⟨g, 0, none⟩), .func (.func 64) #[.agg #[.pointer (some ⟨h, k0, none⟩), .int .u32 ((iU v).toNat : Int)]] #[], .int .u32 4294967295] w (Does w g h (opS ⟨ws, on, ops, plan⟩ (proW ws k0 v) ones32) (.int .i64 (planE plan))) := by
  have HK := hide (f.ok.opS (proW ws k0 v) ones32 (fun m => proW_len _ _ _ _))
  have hk := f.ok.left
  have HF := hide f
  have HB := hide hb
  clear f
  rcases plan with _ | ⟨_ | k, m⟩
  · have c3 : w.cell? ⟨g, 3, none⟩ = some (.bool false) := hb.cell (j := 3) rfl
    clear hb hk
    go_enter Try.func62, Try.ntmps62
    go_wp2_with (go_at_call 64; refine (clear_all h k0 _ c ws v _ ho hk0).mono ?_; rintro e w1 ⟨rfl, ho1, hk1⟩; have hb1 := hk1.blk HB.out (by simpa using HF.out.ne); have d2 : w1.cell? ⟨g, 2, none⟩ = some (.int .i64 (ops : Int)) := hb1.cell (j := 2) rfl; have d3 : w1.cell? ⟨g, 3, none⟩ = some (.bool false) := hb1.cell (j := 3) rfl; have z2 := hb1.frozen 2; have HB1 := hide hb1; clear hb1)
    go_ret
    have HK2 := HK.out
    rw [opS_none] at HK2
    unfold Does
    rw [opS_none]
    exact ⟨rfl, Fl.of HK2 HF.out.ne (HB1.out.set 2 _) (own_fld ho1 HF.out.ne _ _) rfl, (hk1.more (by simp)).set (.inl (by simp)) _⟩
  · have c3 : w.cell? ⟨g, 3, none⟩ = some (.bool true) := hb.cell (j := 3) rfl
    have c4 : w.cell? ⟨g, 4, none⟩ = some (.int .i64 0) := hb.cell (j := 4) rfl
    have c5 : w.cell? ⟨g, 5, none⟩ = some (.int .u32 (m.toNat : Int)) := hb.cell (j := 5) rfl
    clear hb hk
    go_enter Try.func62, Try.ntmps62
    go_wp2_with (go_at_call 64; refine (clear_any h k0 _ c ws v m _ ho hk0).mono ?_; rintro e w1 ⟨rfl, ho1, hk1⟩; have hb1 := hk1.blk HB.out (by simpa using HF.out.ne); have d1 : w1.cell? ⟨g, 1, none⟩ = some (.bool on) := hb1.cell (j := 1) rfl; have d3 : w1.cell? ⟨g, 3, none⟩ = some (.bool true) := hb1.cell (j := 3) rfl; have d4 : w1.cell? ⟨g, 4, none⟩ = some (.int .i64 0) := hb1.cell (j := 4) rfl; have d5 : w1.cell? ⟨g, 5, none⟩ = some (.int .u32 (m.toNat : Int)) := hb1.cell (j := 5) rfl; have z1 := hb1.frozen 1; have z3 := hb1.frozen 3; have z4 := hb1.frozen 4; have z5 := hb1.frozen 5; have HB1 := hide hb1; clear hb1)
    go_ret
    have HK2 := HK.out
    rw [opS_torn] at HK2
    unfold Does
    rw [opS_torn]
    exact ⟨rfl, Fl.of HK2 HF.out.ne ((((HB1.out.set 1 (.bool false)).set 3 (.bool false)).set 4 (.int .i64 0)).set 5 (.int .u32 0)) (own_fld (own_fld (own_fld (own_fld ho1 HF.out.ne _ _) HF.out.ne _ _) HF.out.ne _ _) HF.out.ne _ _) rfl, (((((hk1.more (by simp)).set (.inl (by simp)) _).set (.inl (by simp)) _).set (.inl (by simp)) _).set (.inl (by simp)) _)⟩
  · have c3 : w.cell? ⟨g, 3, none⟩ = some (.bool true) := hb.cell (j := 3) rfl
    have c4 : w.cell? ⟨g, 4, none⟩ = some (.int .i64 ((k : Int) + 1)) := hb.cell (j := 4) rfl
    have hk9 : k + 1 ≤ 9223372036854775807 := hk
    have e4 : ((k : Int) + 1 == 0) = false := by rw [beq_eq_false_iff_ne]; omega
    clear hb hk
    go_enter Try.func62, Try.ntmps62
    go_wp2_with (go_at_call 64; refine (clear_all h k0 _ c ws v _ ho hk0).mono ?_; rintro e w1 ⟨rfl, ho1, hk1⟩; have hb1 := hk1.blk HB.out (by simpa using HF.out.ne); have d2 : w1.cell? ⟨g, 2, none⟩ = some (.int .i64 (ops : Int)) := hb1.cell (j := 2) rfl; have d3 : w1.cell? ⟨g, 3, none⟩ = some (.bool true) := hb1.cell (j := 3) rfl; have d4 : w1.cell? ⟨g, 4, none⟩ = some (.int .i64 ((k : Int) + 1)) := hb1.cell (j := 4) rfl; have z2 := hb1.frozen 2; have z4 := hb1.frozen 4; have HB1 := hide hb1; clear hb1)
    go_ret
    have HK2 := HK.out
    rw [opS_more] at HK2
    unfold Does
    rw [opS_more]
    exact ⟨rfl, Fl.of HK2 HF.out.ne ((HB1.out.set 2 _).set 4 _) (own_fld (own_fld ho1 HF.out.ne _ _) HF.out.ne _ _) rfl, ((hk1.more (by simp)).set (.inl (by simp)) _).set (.inl (by simp)) _⟩
theorem operateE (g h : Nat) (ws : List UInt32) (on : Bool) (ops : Nat) (plan : Option (Nat × UInt32)) (a0 c0 : Nat) (ha0 : a0 + 256 ≤ ws.length) (w : World) (f : Fl w g h ⟨ws, on, ops, plan⟩) (c : Nat) (hb : Blk w g 60 (flC h c ⟨ws, on, ops, plan⟩)) (ho : w.ownsRow 0 37 1 (.slice (some ⟨h, 0, none⟩) ws.length c) ws.length (cs32 ws)) (hops : ops ≤ 4611686018427387904) :
    Calls Try.prog 62 #[.pointer (some ⟨g, 0, none⟩), .func (.func 63) #[.agg #[.slice (some ⟨h, a0, none⟩) 256 c0]] #[], .int .u32 256] w (Does w g h (opS ⟨ws, on, ops, plan⟩ (eraW ws a0) s256) (.int .i64 (planE plan))) := by
  have HK := hide (f.ok.opS (eraW ws a0) s256 (fun m => eraW_len _ _ _))
  have hk := f.ok.left
  have HF := hide f
  have HB := hide hb
  clear f
  rcases plan with _ | ⟨_ | k, m⟩
  · have c3 : w.cell? ⟨g, 3, none⟩ = some (.bool false) := hb.cell (j := 3) rfl
    clear hb hk
    go_enter Try.func62, Try.ntmps62
    go_wp2_with (go_at_call 63; refine (erase_all h a0 _ c c0 ws _ ho ha0).mono ?_; rintro e w1 ⟨rfl, ho1, hk1⟩; have hb1 := hk1.blk HB.out (by simpa using HF.out.ne); have d2 : w1.cell? ⟨g, 2, none⟩ = some (.int .i64 (ops : Int)) := hb1.cell (j := 2) rfl; have d3 : w1.cell? ⟨g, 3, none⟩ = some (.bool false) := hb1.cell (j := 3) rfl; have z2 := hb1.frozen 2; have HB1 := hide hb1; clear hb1)
    go_ret
    have HK2 := HK.out
    rw [opS_none] at HK2
    unfold Does
    rw [opS_none]
    exact ⟨rfl, Fl.of HK2 HF.out.ne (HB1.out.set 2 _) (own_fld ho1 HF.out.ne _ _) rfl, (hk1.more (by simp)).set (.inl (by simp)) _⟩
  · have c3 : w.cell? ⟨g, 3, none⟩ = some (.bool true) := hb.cell (j := 3) rfl
    have c4 : w.cell? ⟨g, 4, none⟩ = some (.int .i64 0) := hb.cell (j := 4) rfl
    have c5 : w.cell? ⟨g, 5, none⟩ = some (.int .u32 (m.toNat : Int)) := hb.cell (j := 5) rfl
    clear hb hk
    go_enter Try.func62, Try.ntmps62
    go_wp2_with (go_at_call 63; refine (erase_any h a0 _ c c0 ws m _ ho ha0).mono ?_; rintro e w1 ⟨rfl, ho1, hk1⟩; have hb1 := hk1.blk HB.out (by simpa using HF.out.ne); have d1 : w1.cell? ⟨g, 1, none⟩ = some (.bool on) := hb1.cell (j := 1) rfl; have d3 : w1.cell? ⟨g, 3, none⟩ = some (.bool true) := hb1.cell (j := 3) rfl; have d4 : w1.cell? ⟨g, 4, none⟩ = some (.int .i64 0) := hb1.cell (j := 4) rfl; have d5 : w1.cell? ⟨g, 5, none⟩ = some (.int .u32 (m.toNat : Int)) := hb1.cell (j := 5) rfl; have z1 := hb1.frozen 1; have z3 := hb1.frozen 3; have z4 := hb1.frozen 4; have z5 := hb1.frozen 5; have HB1 := hide hb1; clear hb1)
    go_ret
    have HK2 := HK.out
    rw [opS_torn] at HK2
    unfold Does
    rw [opS_torn]
    exact ⟨rfl, Fl.of HK2 HF.out.ne ((((HB1.out.set 1 (.bool false)).set 3 (.bool false)).set 4 (.int .i64 0)).set 5 (.int .u32 0)) (own_fld (own_fld (own_fld (own_fld ho1 HF.out.ne _ _) HF.out.ne _ _) HF.out.ne _ _) HF.out.ne _ _) rfl, (((((hk1.more (by simp)).set (.inl (by simp)) _).set (.inl (by simp)) _).set (.inl (by simp)) _).set (.inl (by simp)) _)⟩
  · have c3 : w.cell? ⟨g, 3, none⟩ = some (.bool true) := hb.cell (j := 3) rfl
    have c4 : w.cell? ⟨g, 4, none⟩ = some (.int .i64 ((k : Int) + 1)) := hb.cell (j := 4) rfl
    have hk9 : k + 1 ≤ 9223372036854775807 := hk
    have e4 : ((k : Int) + 1 == 0) = false := by rw [beq_eq_false_iff_ne]; omega
    clear hb hk
    go_enter Try.func62, Try.ntmps62
    go_wp2_with (go_at_call 63; refine (erase_all h a0 _ c c0 ws _ ho ha0).mono ?_; rintro e w1 ⟨rfl, ho1, hk1⟩; have hb1 := hk1.blk HB.out (by simpa using HF.out.ne); have d2 : w1.cell? ⟨g, 2, none⟩ = some (.int .i64 (ops : Int)) := hb1.cell (j := 2) rfl; have d3 : w1.cell? ⟨g, 3, none⟩ = some (.bool true) := hb1.cell (j := 3) rfl; have d4 : w1.cell? ⟨g, 4, none⟩ = some (.int .i64 ((k : Int) + 1)) := hb1.cell (j := 4) rfl; have z2 := hb1.frozen 2; have z4 := hb1.frozen 4; have HB1 := hide hb1; clear hb1)
    go_ret
    have HK2 := HK.out
    rw [opS_more] at HK2
    unfold Does
    rw [opS_more]
    exact ⟨rfl, Fl.of HK2 HF.out.ne ((HB1.out.set 2 _).set 4 _) (own_fld (own_fld ho1 HF.out.ne _ _) HF.out.ne _ _) rfl, ((hk1.more (by simp)).set (.inl (by simp)) _).set (.inl (by simp)) _⟩
end Go.Proofs.Ytahnfkoakaimhaa
