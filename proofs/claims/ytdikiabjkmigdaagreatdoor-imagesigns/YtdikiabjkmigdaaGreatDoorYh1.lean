/-
  Contract of the reference's Sum of layer 4.
-/
import Derived.Test.YtdikiabjkmigdaaGreatDoorSPkg2
import Derived.Test.YtdikiabjkmigdaaGreatDoorSPkg3
import Derived.Test.YtdikiabjkmigdaaGreatDoorSPad
import Derived.Test.YtdikiabjkmigdaaGreatDoorSSum
namespace Go.Proofs.YtdikiabjkmigdaaGreatDoor
set_option maxRecDepth 20000
open Go.RowKit
set_option maxHeartbeats 800000

theorem turned_at (x : UInt32) (N : Int) (w : World) (h1 : 0 ≤ N) (h2 : N ≤ 31) : Calls Tryz.prog 116 #[.int .u32 (x.toNat : Int), .int .i64 N] w fun e w' => e = .returned (.int .u32 ((rU N.toNat x).toNat : Int)) ∧ w = w' := by
  obtain ⟨n, rfl⟩ : ∃ n : Nat, N = (n : Int) := ⟨N.toNat, by omega⟩
  have hn : n ≤ 31 := by omega
  have HX := hide x.toNat_lt
  clear h1 h2
  go_enter Tryz.func116, Tryz.ntmps116
  go_wp2
  go_loop [0, 5] (fun v i => ∃ (j y : Nat), j ≤ n ∧ i = .int .i64 (j : Int) ∧ v = .int .u32 (y : Int) ∧ y ≤ 4294967295 ∧ Hid (y = rotN j x.toNat)) (fun _ i => n - (intOf i).toNat)
  case atStart => exact ⟨0, x.toNat, Nat.zero_le _, rfl, rfl, Nat.le_of_lt_succ x.toNat_lt, (rotN_zero _).symm⟩
  case round =>
    obtain ⟨j, y, hj, rfl, rfl, hy, HY⟩ := hrel
    by_cases hlt : j < n
    · go_wp2
      go_round
      case rel => exact ⟨j + 1, y / 2 + y % 2 * 2147483648, by omega, by go_num, by go_num, by omega, by show _ = _; rw [rotN_succ (by omega), ← HY.out]⟩
      case measure => simp [intOf]; omega
    · obtain rfl : j = n := by omega
      go_wp2
      go_ret
      exact ⟨by rw [rU_toNat (by omega)]; exact congrArg (fun z : Nat => Ending.returned (.int .u32 (z : Int))) HY.out, rfl⟩
theorem shifted_at (x : UInt32) (N : Int) (w : World) (h1 : 0 ≤ N) (h2 : N ≤ 31) : Calls Tryz.prog 95 #[.int .u32 (x.toNat : Int), .int .i64 N] w fun e w' => e = .returned (.int .u32 ((sU N.toNat x).toNat : Int)) ∧ w = w' := by
  obtain ⟨n, rfl⟩ : ∃ n : Nat, N = (n : Int) := ⟨N.toNat, by omega⟩
  have hn : n ≤ 31 := by omega
  have HX := hide x.toNat_lt
  clear h1 h2
  go_enter Tryz.func95, Tryz.ntmps95
  go_wp2
  go_loop [0, 5] (fun v i => ∃ (j y : Nat), j ≤ n ∧ i = .int .i64 (j : Int) ∧ v = .int .u32 (y : Int) ∧ y ≤ 4294967295 ∧ Hid (y = x.toNat / 2 ^ j)) (fun _ i => n - (intOf i).toNat)
  case atStart => exact ⟨0, x.toNat, Nat.zero_le _, rfl, rfl, Nat.le_of_lt_succ x.toNat_lt, by show _ = _; simp⟩
  case round =>
    obtain ⟨j, y, hj, rfl, rfl, hy, HY⟩ := hrel
    by_cases hlt : j < n
    · go_wp2
      go_round
      case rel => exact ⟨j + 1, y / 2, by omega, by go_num, by go_num, by omega, by show _ = _; rw [Nat.pow_succ, ← Nat.div_div_eq_div_mul, ← HY.out]⟩
      case measure => simp [intOf]; omega
    · obtain rfl : j = n := by omega
      go_wp2
      go_ret
      exact ⟨by rw [sU_toNat]; exact congrArg (fun z : Nat => Ending.returned (.int .u32 (z : Int))) HY.out, rfl⟩
theorem be_next (l : List UInt8) (i k p : Nat) (y : UInt32) (hy : y = beW ((l.drop (4 * i)).take k)) (hk : k ≤ 3) (hp : 4 * i + k = p) (h : p < l.length) : y.toNat ≤ 16777215 ∧ 256 * y.toNat + l[p].toNat = (beW ((l.drop (4 * i)).take (k + 1))).toNat := by
  subst hy
  subst hp
  refine ⟨Nat.le_of_lt_succ (beW_small _ (by simp; omega)), ?_⟩
  rw [take_step l (4 * i) k h, beW_snoc _ _ (by simp; omega)]
def WordsPost (w : World) (l : List UInt8) (e : Ending) (w' : World) : Prop :=
  ∃ A c, e = .returned (.slice A 64 c) ∧ w'.ownsRow w.heap.size 22 1 (.slice A 64 c) 64 (cs32 (schedW l)) ∧ Below w.heap.size w w'
theorem words_any (B : Nat) (A : Option Addr) (c : Nat) (l : List UInt8) (w : World) (hr : Row w B A 64 c (cs8 l)) (hB : B ≤ w.heap.size) :
    Calls Tryz.prog 114 #[.slice A 64 c] w (WordsPost w l) := by
  obtain ⟨i0, hi, hz0, hz1, hz2⟩ := info_parts info32
  have hn := hr.len
  rw [cs8_len] at hn
  go_enter Tryz.func114, Tryz.ntmps114
  go_wp2
  go_loopw [3, 4] (fun s i wr => ∃ (j : Nat) (A' : Option Addr) (c' : Nat), j ≤ 16 ∧ i = .int .i64 (j : Int) ∧ s = .slice A' j c' ∧ wr.ownsRow w.heap.size 22 1 (.slice A' j c') j (cs32 (headW l j)) ∧ Below w.heap.size w wr) (fun _ i _ => 16 - (intOf i).toNat)
  case atStart => exact ⟨0, _, _, Nat.zero_le _, rfl, rfl, World.ownsRow_nil _ _ _ _, Below.refl _ _⟩
  case round =>
    obtain ⟨j, A', c', hj, rfl, rfl, ho, hb⟩ := hrel
    have hbs := hb.size
    by_cases hlt : j < 16
    · go_wp2
      go_loop [5, 6] (fun s i => ∃ (k : Nat) (y : UInt32), k ≤ 4 ∧ i = .int .i64 (k : Int) ∧ Hid (y = beW ((l.drop (4 * j)).take k)) ∧ s = .int .u32 (y.toNat : Int)) (fun _ i => 4 - (intOf i).toNat)
      case atStart => exact ⟨0, 0, Nat.zero_le _, rfl, rfl, rfl⟩
      case round =>
        obtain ⟨k, y, hk, rfl, HY, rfl⟩ := hrel
        by_cases hk4 : k < 4
        · obtain ⟨p, hp⟩ : ∃ p : Nat, 4 * (j : Int) + (k : Int) = (p : Int) := ⟨4 * j + k, by omega⟩
          have hp64 : p < 64 := by omega
          obtain ⟨b, o, u, rfl, _, hu, hcell⟩ := (hr.keep hb hB).get hp64
          rw [cs8_at (show p < l.length by omega)] at hu
          obtain rfl := Option.some.inj hu
          clear hu
          have hbn := be_next l j k p y HY.out (by omega) (by omega) (by omega)
          have hy3 := hbn.1
          have HB := hide hbn.2
          have hc2 := l[p].toNat_lt
          clear hbn
          go_wp2
          go_round
          case rel => exact ⟨k + 1, beW ((l.drop (4 * j)).take (k + 1)), by omega, by go_num, rfl, by rw [← HB.out]; go_num⟩
          case measure => simp [intOf]; omega
        · obtain rfl : k = 4 := by omega
          have HH := hide (headW_succ l j)
          rw [← HY.out] at HH
          go_wp2_with (at_builtin; refine wpList_append_row rfl (.tmp 31) (.tmp 33) 96 rfl w.heap.size 22 i0 _ 4 Tryz.underlying96 hi hz0 hz1 hz2 rfl _ _ _ rfl (ho.alloc _) _ _ _ _ _ rfl (Row.one _ _ _) (one_u32 _) (by unfold maxLen; omega) (by omega) w (hb.alloc (by omega) _) (Nat.le_refl _) ?_; intro A2 c2 w2 ho2 hb2 hg2)
          go_roundw
          case rel => exact ⟨j + 1, A2, c2, by omega, by go_num, rfl, by rw [HH.out, cs32_app]; exact ho2, hb2⟩
          case measure => simp [intOf]; omega
    · have e16 : j = 16 := by omega
      rw [e16] at ho
      go_wp2
      clear hlt hj
      have e2 : headW l 16 = extW (headW l 16) (16 - 16) := rfl
      rw [e2] at ho
      clear e2
      go_loopw [3, 7] (fun s i wr => ∃ (m : Nat) (A' : Option Addr) (c' : Nat), 16 ≤ m ∧ m ≤ 64 ∧ i = .int .i64 (m : Int) ∧ s = .slice A' m c' ∧ wr.ownsRow w.heap.size 22 1 (.slice A' m c') m (cs32 (extW (headW l 16) (m - 16))) ∧ Below w.heap.size w wr) (fun _ i _ => 64 - (intOf i).toNat)
      case atStart => exact ⟨16, _, _, by omega, by omega, rfl, by rw [e16], ho, hb⟩
      case round =>
        clear ho hb hbs e16
        obtain ⟨i, A', c', hi1, hi2, rfl, rfl, ho, hb⟩ := hrel
        have hbs := hb.size
        by_cases hlt : i < 64
        · obtain ⟨g, rfl⟩ := own_some ho (by omega)
          have hcap := own_cap ho
          obtain ⟨a15, h15⟩ : ∃ a : Nat, (i : Int) - 15 = (a : Int) := ⟨i - 15, by omega⟩
          obtain ⟨a2, h2⟩ : ∃ a : Nat, (i : Int) - 2 = (a : Int) := ⟨i - 2, by omega⟩
          obtain ⟨a16, h16⟩ : ∃ a : Nat, (i : Int) - 16 = (a : Int) := ⟨i - 16, by omega⟩
          obtain ⟨a7, h7⟩ : ∃ a : Nat, (i : Int) - 7 = (a : Int) := ⟨i - 7, by omega⟩
          have HN := hide (next_is l i a16 a15 a7 a2 hi1 (by omega) (by omega) (by omega) (by omega))
          have HX : Hid (extW (headW l 16) (i + 1 - 16) = extW (headW l 16) (i - 16) ++ [nextW (extW (headW l 16) (i - 16))]) := by show _ = _; rw [show i + 1 - 16 = (i - 16) + 1 by omega]; rfl
          rw [HN.out] at HX
          have b15 : (a15 : Int) < (i : Int) := by omega
          have b2 : (a2 : Int) < (i : Int) := by omega
          have b16 : (a16 : Int) < (i : Int) := by omega
          have b7 : (a7 : Int) < (i : Int) := by omega
          have hE := ext_len l i hi1
          have c15 := ho.cellAt a15 (by omega)
          rw [cs32_at (by omega), nth_at] at c15
          have c2 := ho.cellAt a2 (by omega)
          rw [cs32_at (by omega), nth_at] at c2
          have c16 := ho.cellAt a16 (by omega)
          rw [cs32_at (by omega), nth_at] at c16
          have c7 := ho.cellAt a7 (by omega)
          rw [cs32_at (by omega), nth_at] at c7
          generalize nth (extW (headW l 16) (i - 16)) a15 = x15 at *
          generalize nth (extW (headW l 16) (i - 16)) a2 = x2 at *
          generalize nth (extW (headW l 16) (i - 16)) a16 = x16 at *
          generalize nth (extW (headW l 16) (i - 16)) a7 = x7 at *
          clear HN hE
          have ha := add_w
          have hx := xor_w
          have w16 : IntKind.i64.wrap (a16 : Int) = (a16 : Int) := by simp [IntKind.wrap, IntKind.signed, IntKind.bits]; omega
          have w7 : IntKind.i64.wrap (a7 : Int) = (a7 : Int) := by simp [IntKind.wrap, IntKind.signed, IntKind.bits]; omega
          go_wp2_with (first
            | (go_at_call 116; refine (turned_at _ _ _ (by omega) (by omega)).mono ?_; rintro e' w' ⟨rfl, rfl⟩)
            | (go_at_call 95; refine (shifted_at _ _ _ (by omega) (by omega)).mono ?_; rintro e' w' ⟨rfl, rfl⟩))
          go_region_law (refine step_append_row rfl (.tmp 65) (.tmp 81) 96 rfl w.heap.size 22 i0 _ 4 Tryz.underlying96 hi hz0 hz1 hz2 rfl (.slice (some ⟨g, 0, none⟩) i c') i _ rfl (by first | exact own_drew (ho.alloc _) | exact (own_drew ho).alloc _) (wr.heap.size + 1) _ _ _ [.int .u32 ((aU (aU (aU x16 (g0 x15)) x7) (g1 x2)).toNat : Int)] rfl (by first | exact (Row.one _ _ _) | exact (Row.one _ _ _).of_drew) (one_u32 _) (by unfold maxLen; omega) (by omega) w (by first | exact (hb.alloc (by omega) _).drew | exact hb.drew.alloc (by simp; omega) _) (Nat.le_refl _) ?_; intro A2 c2 w2 ho2 hb2 hg2)
          all_goals
            go_wp2
            go_roundw
            case rel => exact ⟨i + 1, A2, c2, by omega, by omega, by go_num, rfl, by rw [HX.out, cs32_app]; exact ho2, hb2⟩
            case measure => simp [intOf]; omega
        · obtain rfl : i = 64 := by omega
          go_wp2
          go_ret
          exact ⟨A', c', rfl, ho, hb⟩
end Go.Proofs.YtdikiabjkmigdaaGreatDoor
namespace Go.Proofs.YtdikiabjkmigdaaGreatDoor
open Go.RowKit
set_option maxHeartbeats 800000

theorem rFirst_any (w : World) : Calls Tryz.prog 93 #[] w fun e w' => e = .returned (.agg (cs32 firstL).toArray) ∧ Below w.heap.size w w' := by
  go_enter Tryz.func93, Tryz.ntmps93
  go_wp2
  exact ret_cell (cs := cs32 firstL) rfl Tryz.underlying115 size8w rfl (Blk.at _ _ _ rfl) rfl rfl ⟨rfl, (Below.refl _ _).alloc (Nat.le_refl _) _⟩
theorem wpList_buildB {P : Program} {ops : Array Oper} {rest : List Oper} {o : Oper} {a : Act} {w : World} {Q : Exit → Act → World → Prop} (hg : o.guard = none) (t : TypeId) (parts : Array (Nat × Operand)) (ho : o.op = .build t parts) (cs : List Value)
    (hf : P.built t (parts.map fun (i, x) => (i, a.eval x)).toList = some cs.toArray) (h : wpList P ops Q rest (a.put o.dst (.agg cs.toArray)) w) : wpList P ops Q (o :: rest) a w := by
  refine wpList_build hg t parts ho ?_ ?_
  · rw [hf]; rfl
  · rw [hf]; exact h
set_option maxRecDepth 10000 in
theorem ks_any (w : World) : Calls Tryz.prog 115 #[] w fun e w' => e = .returned (.agg (cs32 kL).toArray) ∧ Below w.heap.size w w' := by
  go_enter Tryz.func115, Tryz.ntmps115
  go_wp2_with (first
    | (refine wpList_buildB rfl 135 _ rfl (cs32 kL) (by kernel_rfl) ?_)
    | (refine wpList_storeB rfl 135 (.tmp 0) (.tmp 1) rfl w.heap.size (cs32 kL) rfl rfl 135 (zeros32 64) (Blk.at _ _ _ rfl) 64 size64w rfl rfl (cs32_one _) ?_))
  refine ret_cell rfl Tryz.underlying135 size64w rfl (Blk.row (Blk.at (cs := zeros32 64) _ _ rfl) _) rfl rfl ?_
  exact ⟨rfl, below_setRow ((Below.refl _ _).alloc (Nat.le_refl _) _) (Nat.le_refl _) _⟩
theorem quiet_turned (x : UInt32) (N : Int) (w : World) (k : Nat) (h1 : 0 ≤ N) (h2 : N ≤ 31) : Calls Tryz.prog 116 #[.int .u32 (x.toNat : Int), .int .i64 N] (w.drewN k) fun e w'' => e = .returned (.int .u32 ((rU N.toNat x).toNat : Int)) ∧ ∃ m, w'' = w.drewN m :=
  Calls.quiet_of_same ((turned_at x N (w.drewN k) h1 h2).mono fun _ _ ⟨h, h'⟩ => ⟨h, h'.symm⟩)
set_option maxRecDepth 10000 in
theorem rStep_bad (A : Option Addr) (n c : Nat) (l : List UInt8) (s : List UInt32) (w : World) (hn : l.length = n) (h64 : n ≠ 64) :
    Calls Tryz.prog 94 #[.agg (cs32 s).toArray, .slice A n c] w (StepPost w s l) := by
  have hd : ((n : Int) != 64) = true := by rw [bne_iff_ne]; omega
  have HL := hide hn
  clear hn
  go_enter Tryz.func94, Tryz.ntmps94
  go_wp2_with (first
    | (refine wpList_storeB rfl 115 (.tmp 4) (.tmp 20) rfl (w.heap.size + 1) (zeros32 8) rfl rfl 115 (zeros32 8) (Blk.at _ _ _ (by simp)) 8 size8w rfl rfl (by simp [zeros32, Value.oneCell']) ?_))
  refine ret_cell2 rfl Tryz.underlying115 size8w rfl rfl (Blk.row (Blk.at _ _ _ (by simp)) _) rfl rfl ?_
  refine ⟨?_, below_setRow (((Below.refl _ w).alloc (Nat.le_refl _) _).alloc (by simp) _) (by simp) _⟩
  unfold stS stE
  rw [if_neg (by rw [HL.out]; exact h64), if_neg (by rw [HL.out]; exact h64)]
  rfl
theorem sub_w (a : UInt32) : (4294967295 : Int) - (a.toNat : Int) = ((iU a).toNat : Int) := by
  rw [iU_toNat]; have := a.toNat_lt; omega
set_option maxRecDepth 10000 in
theorem rStep_ok (B : Nat) (A : Option Addr) (c : Nat) (l : List UInt8) (s : List UInt32) (w : World) (hr : Row w B A 64 c (cs8 l)) (hB : B ≤ w.heap.size) (hs : s.length = 8) :
    Calls Tryz.prog 94 #[.agg (cs32 s).toArray, .slice A 64 c] w (StepPost w s l) := by
  have hsl : (cs32 s).length = 8 := by rw [cs32_len]; exact hs
  have hkl : (cs32 kL).length = 64 := rfl
  go_enter Tryz.func94, Tryz.ntmps94
  go_wp2_with fail
  generalize hw : World.alloc _ _ = w1
  have hb : Below w.heap.size w w1 := by rw [← hw]; exact ((Below.refl _ w).alloc (Nat.le_refl _) _).alloc (by simp) _
  have hb0 : Blk w1 w.heap.size 115 (cs32 s) := by rw [← hw]; exact (Blk.at _ _ _ rfl).alloc _
  have hb1 : Blk w1 (w.heap.size + 1) 115 (zeros32 8) := by rw [← hw]; exact Blk.at _ _ _ (by simp)
  clear hw
  have hs1 := hb.size
  have hl1 := hb1.lt
  refine (words_any B A c l w1 (hr.keep hb hB) (by omega)).mono ?_
  rintro e w2 ⟨A2, c2, rfl, ho2, hbw⟩
  replace hb0 := hb0.keep hbw (by omega)
  replace hb1 := hb1.keep hbw hl1
  replace hb := hb.trans (hbw.mono hs1)
  have hr2 := Row.of_own ho2
  clear hbw hl1 hs1 ho2
  go_wp2_with fail
  have hs2 := hb.size
  have hl1 := hb1.lt
  refine (ks_any w2).mono ?_
  rintro e w3 ⟨rfl, hbw⟩
  replace hb0 := hb0.keep hbw (by omega)
  replace hb1 := hb1.keep hbw hl1
  replace hb := hb.trans (hbw.mono hs2)
  replace hr2 := hr2.keep hbw (Nat.le_refl _)
  have hs23 := hbw.size
  clear hbw hs2
  have hs3 := hb.size
  go_wp2_with (first
    | (refine wpList_storeB rfl 135 (.tmp 7) (.tmp 23) rfl w3.heap.size (cs32 kL) rfl rfl 135 (zeros32 64) (Blk.at _ _ _ rfl) 64 size64w hkl rfl (cs32_one _) ?_)
    | (refine wpList_loadB rfl 115 (.tmp 2) rfl w.heap.size rfl 115 (cs32 s) ((hb0.alloc _).rowOther (by omega) _) 8 22 Tryz.underlying115 size8w hsl ?_)
    | (refine wpList_storeB rfl 115 (.tmp 8) (.tmp 24) rfl (w3.heap.size + 1) (cs32 s) rfl rfl 115 (zeros32 8) (Blk.at _ _ _ (by simp)) 8 size8w hsl rfl (cs32_one _) ?_))
  generalize hw : World.setRow _ _ _ = w4
  have hk4 : Blk w4 w3.heap.size 135 (cs32 kL) := by rw [← hw]; exact ((Blk.row (Blk.at (cs := zeros32 64) _ _ rfl) _).alloc _).rowOther (by omega) _
  have hb2 : Blk w4 (w3.heap.size + 1) 115 (cs32 s) := by rw [← hw]; exact Blk.row (Blk.at (cs := zeros32 8) _ _ (by simp)) _
  have hw34 : Below w3.heap.size w3 w4 := by rw [← hw]; exact below_setRow ((below_setRow ((Below.refl _ _).alloc (Nat.le_refl _) _) (Nat.le_refl _) _).alloc (by simp) _) (by omega) _
  clear hw
  replace hb0 := hb0.keep hw34 (by omega)
  replace hb1 := hb1.keep hw34 (by omega)
  replace hr2 := hr2.keep hw34 hs23
  replace hb := hb.trans (hw34.mono hs3)
  clear hw34
  go_loopw [9] (fun i wr => ∃ (j : Nat), j ≤ 64 ∧ i = .int .i64 (j : Int) ∧ Blk wr w.heap.size 115 (cs32 s) ∧ Blk wr (w.heap.size + 1) 115 (zeros32 8) ∧ Blk wr w3.heap.size 135 (cs32 kL) ∧ Blk wr (w3.heap.size + 1) 115 (cs32 (rnds kL (schedW l) s j)) ∧ Row wr w2.heap.size A2 64 c2 (cs32 (schedW l)) ∧ Below w.heap.size w wr) (fun i _ => 64 - (intOf i).toNat)
  case atStart => exact ⟨0, Nat.zero_le _, rfl, hb0, hb1, hk4, hb2, hr2, hb⟩
  case round =>
    clear hb0 hb1 hk4 hb2 hr2 hb
    obtain ⟨j, hj, rfl, hb0, hb1, hk4, hb2, hr2, hb⟩ := hrel
    have hbs := hb.size
    by_cases hlt : j < 64
    · obtain ⟨b2, o2, u2, rfl, _, hu2, hcw⟩ := hr2.get hlt
      rw [cs32_at (show j < (schedW l).length by rw [schedW_len]; exact hlt), nth_at] at hu2
      obtain rfl := Option.some.inj hu2
      clear hu2
      have hck := hk4.cell (j := j) (v := .int .u32 ((nth kL j).toNat : Int)) (by rw [cs32_at (show j < kL.length by rw [kL_len]; exact hlt), nth_at])
      have HR : Hid (rnd (rnds kL (schedW l) s j) (aU (nth kL j) (nth (schedW l) j)) = rnds kL (schedW l) s (j + 1)) := rfl
      obtain ⟨a, b, c', d, e, f, g, h, h8⟩ := eight (rnds_len kL (schedW l) hs j)
      rw [h8] at hb2 HR
      obtain ⟨c0, c1, c2', c3, c4, c5, c6, c7⟩ := eight_cells hb2
      clear h8
      generalize nth kL j = xk at *
      generalize nth (schedW l) j = xw at *
      have ha := add_w
      have hx := xor_w
      have hn := and_w
      have ho := or_w
      have hsb := sub_w e
      have hel := e.toNat_lt
      go_wp2_with (go_at_call 116; refine (turned_at _ _ _ (by omega) (by omega)).mono ?_; rintro e' w' ⟨rfl, rfl⟩)
      go_quiet (first | (go_at_call 116; exact quiet_turned _ _ _ _ (by omega) (by omega)))
      rw [aU_assoc _ xk xw]
      have h0d := hb0.drewN nq
      have h1d := hb1.drewN nq
      have hkd := hk4.drewN nq
      have h2d := hb2.drewN nq
      have hrd := hr2.keep (below_drewN _ wr nq) (Nat.le_refl _)
      have hbd := hb.trans (below_drewN _ wr nq)
      clear hb0 hb1 hk4 hb2 hr2 hb hck hcw c0 c1 c2' c3 c4 c5 c6 c7
      generalize wr.drewN nq = w5 at h0d h1d hkd h2d hrd hbd ⊢
      obtain ⟨c0, c1, c2', c3, c4, c5, c6, c7⟩ := eight_cells h2d
      have hl : (cs32 (rnds kL (schedW l) s (j + 1))).length = 8 := by rw [cs32_len, rnds_len _ _ hs]
      go_wp2_with (first
        | (go_at_call 116; refine (turned_at _ _ _ (by omega) (by omega)).mono ?_; rintro e' w' ⟨rfl, rfl⟩)
        | (refine wpList_storeB rfl 115 (.tmp 8) (.tmp 109) rfl _ (cs32 (rnd [a, b, c', d, e, f, g, h] (aU xk xw))) rfl rfl 115 _ h2d 8 size8w rfl rfl (cs32_one _) ?_))
      go_roundw
      case rel =>
        rw [HR.out]
        exact ⟨j + 1, by omega, by go_num, h0d.rowOther (by omega) _, h1d.rowOther (by omega) _, hkd.rowOther (by omega) _, h2d.row _, hrd.keep (below_setRow (Below.refl w2.heap.size _) (by omega) _) (Nat.le_refl _), below_setRow hbd (by omega) _⟩
      case measure => simp [intOf]; omega
    · have e64 : j = 64 := by omega
      rw [e64] at hb2
      clear e64 hr2 hk4
      have HP := hide (plusL_comm (rnds kL (schedW l) s 64) s)
      have hdj : decide ((j : Int) < 64) = false := by simp; omega
      have hv8 := rnds_len kL (schedW l) hs 64
      have hq : stE l = 0 := if_pos (by have := hr.len; rwa [cs8_len] at this)
      have hq2 : stS s l = stepL s l := if_pos (by have := hr.len; rwa [cs8_len] at this)
      have HQ : Hid (plusL (rnds kL (schedW l) s 64) s = stepL s l) := HP.out
      clear HP
      generalize rnds kL (schedW l) s 64 = v at *
      go_wp2
      clear hj hlt
      go_loopw [16] (fun i wr => ∃ (m : Nat), m ≤ 8 ∧ i = .int .i64 (m : Int) ∧ Blk wr w.heap.size 115 (cs32 s) ∧ Blk wr (w.heap.size + 1) 115 (zeros32 8) ∧ Blk wr (w3.heap.size + 1) 115 (cs32 (plusK v s m)) ∧ Below w.heap.size w wr) (fun i _ => 8 - (intOf i).toNat)
      case atStart => exact ⟨0, Nat.zero_le _, rfl, hb0, hb1, hb2, hb⟩
      case round =>
        clear hb0 hb1 hb2 hb hbs
        obtain ⟨m, hm, rfl, hb0, hb1, hb2, hb⟩ := hrel
        have hbs := hb.size
        by_cases hlt : m < 8
        · have hc := hb2.cell (j := m) (v := .int .u32 (v[m].toNat : Int)) (by simp [cs32, plusK_at (hv8.trans hs.symm) (show m < v.length by omega)])
          have hc0 := hb0.cell (j := m) (v := .int .u32 (s[m].toNat : Int)) (cs32_at (by omega))
          have ha := add_w v[m] s[m]
          have HN := hide (plusK_next (hv8.trans hs.symm) (show m < v.length by omega) (by omega))
          have h0d := hb0.drew
          have h1d := hb1.drew
          have h2d := hb2.drew
          have hbd := hb.drew
          have hci := hc
          go_wp2
          go_still_tail 9, (by kernel_rfl)
          change wpList _ _ _ _ _ wr.drew
          clear hb0 hb1 hb2 hb hc hc0
          have hc : wr.drew.cell? ⟨w3.heap.size + 1, m, none⟩ = _ := hci
          clear hci
          generalize wr.drew = w5 at h0d h1d h2d hbd hc ⊢
          have hfz := h2d.frozen m
          have HS := hide (h2d.set m (.int .u32 ((aU v[m] s[m]).toNat : Int)))
          have H0 := hide (h0d.other (h := w3.heap.size + 1) (by omega) m (.int .u32 ((aU v[m] s[m]).toNat : Int)))
          have H1 := hide (h1d.other (h := w3.heap.size + 1) (by omega) m (.int .u32 ((aU v[m] s[m]).toNat : Int)))
          have HB := hide (hbd.setCell (p := ⟨w3.heap.size + 1, m, none⟩) (show w.heap.size ≤ w3.heap.size + 1 by omega) (.int .u32 ((aU v[m] s[m]).toNat : Int)))
          clear h0d h1d h2d hbd
          go_wp2
          go_roundw
          case rel =>
            rw [cs32_set, HN.out] at HS
            exact ⟨m + 1, by omega, by go_num, H0, H1, HS, HB⟩
          case measure => simp [intOf]; omega
        · obtain rfl : m = 8 := by omega
          have he := plusK_end (hv8.trans hs.symm)
          rw [hv8, HQ.out] at he
          rw [he] at hb2
          have hl4 : (cs32 (stepL s l)).length = 8 := by rw [cs32_len, stepL_len hs]
          go_wp2_with (first
            | (refine wpList_loadB rfl 115 (.tmp 8) rfl _ rfl 115 _ hb2 8 22 Tryz.underlying115 size8w hl4 ?_)
            | (refine wpList_storeB rfl 115 (.tmp 4) (.tmp 123) rfl _ (cs32 (stepL s l)) rfl rfl 115 _ hb1 8 size8w hl4 rfl (cs32_one _) ?_))
          refine ret_cell2 rfl Tryz.underlying115 size8w rfl rfl (hb1.row _) hl4 rfl ?_
          refine ⟨?_, below_setRow hb (by omega) _⟩
          rw [hq, hq2]
          rfl
theorem rStep_any (B : Nat) (A : Option Addr) (n c : Nat) (l : List UInt8) (s : List UInt32) (w : World) (hr : Row w B A n c (cs8 l)) (hB : B ≤ w.heap.size) (hs : s.length = 8) :
    Calls Tryz.prog 94 #[.agg (cs32 s).toArray, .slice A n c] w (StepPost w s l) := by
  by_cases h : n = 64
  · subst h; exact rStep_ok B A c l s w hr hB hs
  · exact rStep_bad A n c l s w (by have := hr.len; rwa [cs8_len] at this) h
end Go.Proofs.YtdikiabjkmigdaaGreatDoor
namespace Go.Proofs.YtdikiabjkmigdaaGreatDoor
set_option maxRecDepth 20000
open Go.RowKit
set_option maxHeartbeats 800000

theorem rPad_bad (n : Int) (w : World) (h : n < 0 ∨ 1152921504606846976 < n) : Calls Tryz.prog 92 #[.int .i64 n] w (Gives w (pdL n) (pdE n)) := by
  have HL := hide (pdL_bad h)
  have HE := hide (pdE_bad h)
  by_cases h0 : n < 0
  · clear h
    go_enter Tryz.func92, Tryz.ntmps92
    go_wp2
    go_ret2
    exact Gives.none_ HL.out HE.out
  · have h1 : 1152921504606846976 < n := by omega
    have hd0 : decide (n < 0) = false := by simpa using h0
    clear h
    go_enter Tryz.func92, Tryz.ntmps92
    go_wp2
    go_ret2
    exact Gives.none_ HL.out HE.out
def padF (j : Nat) : List UInt8 := 128 :: List.replicate j 0
theorem padF_next (j : Nat) : cs8 (padF (j + 1)) = cs8 (padF j) ++ [.int .u8 0] := by
  unfold padF; rw [List.replicate_succ']; simp [cs8]
theorem padF_len (j : Nat) : (padF j).length = j + 1 := by simp [padF]
def padG (z v m : Nat) : List UInt8 := padF z ++ ((leB 8 v).drop m).reverse
theorem padG_next (z v m : Nat) (h : m < 8) : cs8 (padG z v m) = cs8 (padG z v (m + 1)) ++ [.int .u8 (((leB 8 v)[m]'(by rw [leB_len]; exact h)).toNat : Int)] := by
  unfold padG; rw [drop_step (leB 8 v) m (by rw [leB_len]; exact h), List.reverse_cons, ← List.append_assoc, cs8_snoc]
theorem padG_start (z v : Nat) : padG z v 8 = padF z := by unfold padG; rw [List.drop_of_length_le (by rw [leB_len]; omega)]; simp
theorem padG_end (n : Nat) : padG (padZ n) (8 * n) 0 = padL n := by unfold padG padF padL; simp
theorem padG_len (z v m : Nat) (h : m ≤ 8) : (padG z v m).length = z + 9 - m := by unfold padG; simp [padF_len, leB_len]; omega
theorem own_lt {w : World} {base g n c : Nat} {e : TypeId} {xs : List Value} (h : w.ownsRow base e 1 (.slice (some ⟨g, 0, none⟩) n c) n xs) : g < w.heap.size := by
  rcases h.2 with ⟨hv, _⟩ | ⟨g', cap, cur, hv, _, hg', _⟩
  · cases hv
  · obtain rfl : g = g' := by injection hv with h1; injection h1 with h1; injection h1
    exact (Array.getElem?_eq_some_iff.1 hg').1
theorem rPad_ok (n : Nat) (w : World) (h : n ≤ 1152921504606846976) : Calls Tryz.prog 92 #[.int .i64 (n : Int)] w (Gives w (pdL n) (pdE n)) := by
  obtain ⟨i0, hi, hz0, hz1, hz2⟩ := info_parts info8
  have HL := hide (pdL_ok n h)
  have HE := hide (pdE_ok n h)
  have hd0 : decide ((n : Int) < 0) = false := by simp
  have hd1 : decide ((1152921504606846976 : Int) < (n : Int)) = false := by simp; omega
  obtain ⟨r, hr, HR⟩ : ∃ r : Nat, (n : Int) % 64 = (r : Int) ∧ Hid (r = n % 64) := ⟨n % 64, by omega, rfl⟩
  have hr63 : r ≤ 63 := by omega
  obtain ⟨z, HZ⟩ : ∃ z, Hid (z = padZ n) := ⟨_, rfl⟩
  have hz63 : z ≤ 63 := by rw [HZ.out]; exact padZ_lt n
  have HT : Hid (∀ j, j ≤ z → ((r + (j + 1)) % 64 = 56 ↔ j = z)) := by
    intro j hj
    have h1 := HZ.out
    have h2 := HR.out
    unfold padZ at h1
    omega
  have hn8 : (n : Int) * 8 = ((8 * n : Nat) : Int) := by omega
  have hv : 8 * n ≤ 9223372036854775808 := by omega
  obtain ⟨v, HV⟩ : ∃ v, Hid (v = 8 * n) := ⟨_, rfl⟩
  rw [← HV.out] at hn8 hv
  go_enter Tryz.func92, Tryz.ntmps92
  go_wp2
  go_loopw [4] (fun s wr => ∃ (j g c : Nat), j ≤ z ∧ s = .slice (some ⟨g, 0, none⟩) (j + 1) c ∧ wr.ownsRow w.heap.size 5 1 (.slice (some ⟨g, 0, none⟩) (j + 1) c) (j + 1) (cs8 (padF j)) ∧ Below w.heap.size w wr) (fun s _ => z + 1 - (match s with | .slice _ k _ => k | _ => 0))
  case atStart => exact ⟨0, _, 1, Nat.zero_le _, rfl, World.ownsRow_lit (size := 1) w #[.int .u8 128] 1 (Nat.le_refl _) (by unfold maxLen; omega) rfl, (Below.refl _ _).alloc (Nat.le_refl _) _⟩
  case round =>
    obtain ⟨j, g, c, hj, rfl, ho, hb⟩ := hrel
    have hbs := hb.size
    obtain ⟨t, ht, Ht⟩ : ∃ t : Nat, ((r : Int) + ((j : Int) + 1)) % 64 = (t : Int) ∧ Hid (t = (r + (j + 1)) % 64) := ⟨(r + (j + 1)) % 64, by omega, rfl⟩
    by_cases hlt : j < z
    · have hne : ((t : Int) != 56) = true := by
        rw [bne_iff_ne]; intro h1
        have h2 := (HT.out j hj).1 (by have := Ht.out; omega)
        omega
      have HP := hide (padF_next j)
      go_wp2_with (at_builtin; refine wpList_append_at rfl (.tmp 23) (.tmp 24) 29 rfl w.heap.size 5 i0 _ 1 Tryz.underlying29 hi hz0 hz1 hz2 rfl _ _ _ rfl (ho.alloc _) _ _ _ _ rfl rfl (cell_one _ _ _) (one_u8 _) (by unfold maxLen; omega) (by omega) (by simp; omega) (by omega) ?_; intro g2 c2 w2 ho2 hg2 hat)
      go_roundw
      case rel => exact ⟨j + 1, g2, c2, by omega, rfl, by rw [HP.out]; exact ho2, ((Below.refl _ _).grown hg2 (by simp; omega) (fun k hk => (ho.lt k hk).1) |> fun q => (hb.alloc hbs _).trans q)⟩
      case measure => simp; omega
    · have hjz : j = z := by omega
      subst hjz
      have hne : ((t : Int) != 56) = false := by
        rw [bne_eq_false_iff_eq]
        have h2 := (HT.out j hj).2 rfl
        have := Ht.out; omega
      have hgs : g < wr.heap.size := own_lt ho
      generalize wr = w1 at *
      go_wp2
      clear hr ht hne hd0 hd1 hlt HT Ht HR
      go_loopw [5, 6, 7] (fun m s i wr => ∃ (k x : Nat) (A' : Option Addr) (c' : Nat), k ≤ 8 ∧ i = .int .i64 (k : Int) ∧ Hid (x = v / 256 ^ k) ∧ m = .int .u64 (x : Int) ∧ s = .slice A' k c' ∧ wr.ownsRow w1.heap.size 5 1 (.slice A' k c') k (cs8 (leB k v)) ∧ Below w1.heap.size w1 wr) (fun _ _ i _ => 8 - (intOf i).toNat)
      case atStart => exact ⟨0, v, _, _, Nat.zero_le _, rfl, by show v = v / 256 ^ 0; simp, rfl, rfl, World.ownsRow_nil _ _ _ _, Below.refl _ _⟩
      case round =>
        obtain ⟨k, x, A', c', hk, rfl, HX, rfl, rfl, ho2, hb2⟩ := hrel
        have hbs2 := hb2.size
        have hxb : x ≤ 9223372036854775808 := by rw [HX.out]; exact Nat.le_trans (Nat.div_le_self _ _) hv
        by_cases hlt2 : k < 8
        · have HD := hide (cs8_dig k v)
          have HN := hide (div_next v k)
          clear ho hb
          go_wp2_with (at_builtin; refine wpList_append_row rfl (.tmp 33) (.tmp 37) 29 rfl w1.heap.size 5 i0 _ 1 Tryz.underlying29 hi hz0 hz1 hz2 rfl _ _ _ rfl (ho2.alloc _) _ _ _ _ _ rfl (Row.one _ _ _) (one_u8 _) (by unfold maxLen; omega) (by omega) w1 (hb2.alloc (by omega) _) (Nat.le_refl _) ?_; intro A3 c3 w3 ho3 hb3 hg3)
          go_roundw
          case rel => exact ⟨k + 1, x / 256, A3, c3, by omega, by go_num, by show x / 256 = _; rw [HX.out, HN.out], by go_num, rfl, by rw [HD.out, ← HX.out]; exact ho3, hb3⟩
          case measure => simp [intOf]; omega
        · have hk8 : k = 8 := by omega
          have hdk : decide ((k : Int) < 8) = false := by simp; omega
          have ho' := own_keep ho hb2
          have hb' := hb.trans (hb2.mono hbs)
          rw [← padG_start j v] at ho'
          have HK8 := hide hk8
          rcases A' with _ | ⟨gl, ol, xl⟩
          · exact absurd (own_some ho2 (by omega)) (by rintro ⟨g, hg⟩; cases hg)
          · obtain ⟨g9, hg9⟩ := own_some ho2 (by omega)
            obtain ⟨rfl, rfl⟩ : ol = 0 ∧ xl = none := by injection hg9 with h1; injection h1 with _ h2 h3; exact ⟨h2, h3⟩
            clear hg9 g9
            have hll := (ho2.lt gl rfl).1
            have hlc := own_cap ho2
            have hne : g ≠ gl := by omega
            have ho3 := own_base (base' := w.heap.size) hbs ho2
            clear ho hb ho2 hb2 hk8
            go_wp2
            clear hdk hlt2
            go_loopw [4, 8] (fun s i wr => ∃ (m g' c2 : Nat), m ≤ 8 ∧ i = .int .i64 ((m : Int) - 1) ∧ s = .slice (some ⟨g', 0, none⟩) (j + 9 - m) c2 ∧ g' ≠ gl ∧ wr.ownsRow w.heap.size 5 1 (.slice (some ⟨g', 0, none⟩) (j + 9 - m) c2) (j + 9 - m) (cs8 (padG j v m)) ∧ wr.ownsRow w.heap.size 5 1 (.slice (some ⟨gl, 0, none⟩) k c') k (cs8 (leB k v)) ∧ Below w.heap.size w wr) (fun _ i _ => (intOf i + 1).toNat)
            case atStart => exact ⟨8, g, c, Nat.le_refl _, rfl, rfl, hne, ho', ho3, hb'⟩
            case round =>
              clear ho' ho3 hb' hne
              obtain ⟨m, g', c2, hm, hi', rfl, hne, ho, hol, hb⟩ := hrel
              have hbs' := hb.size
              rcases m with _ | m
              · obtain rfl : u8 = .int .i64 (-1) := by rw [hi']; rfl
                clear hi'
                have he : padG j v 0 = padL n := by rw [← padG_end n, ← HV.out, ← HZ.out]
                rw [he, ← HL.out] at ho
                go_wp2
                go_ret2
                exact Gives.of HE.out ho hb
              · obtain rfl : u8 = .int .i64 (m : Int) := by rw [hi']; go_num
                clear hi'
                have hmk : (m : Int) < (k : Int) := by have := HK8.out; omega
                have hcl := hol.cellAt m (by omega)
                rw [cs8_at (by rw [leB_len]; omega)] at hcl
                have HG := hide (padG_next j v m (by omega))
                have hlb : (leB k v)[m]'(by rw [leB_len]; omega) = (leB 8 v)[m]'(by rw [leB_len]; omega) := by have := HK8.out; subst this; rfl
                rw [hlb] at hcl
                have hgl9 := own_lt hol
                clear hlb
                go_wp2_with (at_builtin; refine wpList_append_at rfl (.tmp 45) (.tmp 50) 29 rfl w.heap.size 5 i0 _ 1 Tryz.underlying29 hi hz0 hz1 hz2 rfl _ _ _ rfl (ho.alloc _) _ _ _ _ rfl rfl (cell_one _ _ _) (one_u8 _) (by unfold maxLen; omega) (by omega) (by simp; omega) (by omega) ?_; intro g2 c3 w3 ho3 hg3 hat)
                go_roundw
                case rel =>
                  refine ⟨m, g2, c3, by omega, rfl, by rw [show j + 8 - m + 1 = j + 9 - m by omega], ?_, ?_, ?_, ?_⟩
                  · rcases hat with h1 | h1
                    · have h2 : g' = g2 := Option.some.inj (show some g' = some g2 from h1)
                      rw [← h2]; exact hne
                    · simp at h1; omega
                  · rw [HG.out, show j + 9 - m = j + 9 - (m + 1) + 1 by omega]; exact ho3
                  · refine World.ownsRow.kept (hol.alloc _) hg3 (.inr ?_)
                    intro h1; injection h1 with h1; exact hne h1.symm
                  · exact (hb.alloc hbs' _).trans ((Below.refl _ _).grown hg3 (by simp; omega) (fun k hk => (ho.lt k hk).1))
                case measure => simp [intOf]
theorem rPad_any (n : Int) (w : World) : Calls Tryz.prog 92 #[.int .i64 n] w (Gives w (pdL n) (pdE n)) := by
  by_cases h : n < 0 ∨ 1152921504606846976 < n
  · exact rPad_bad n w h
  · obtain ⟨k, rfl⟩ : ∃ k : Nat, n = (k : Int) := ⟨n.toNat, by omega⟩
    exact rPad_ok k w (by omega)
end Go.Proofs.YtdikiabjkmigdaaGreatDoor
namespace Go.Proofs.YtdikiabjkmigdaaGreatDoor
set_option maxRecDepth 20000
open Go.RowKit
set_option maxHeartbeats 1600000

theorem be4_at (x : UInt32) (i : Nat) (hi : i < 4) : (be4 x)[i]? = some (byt (x.toNat / 256 ^ (3 - i))) := by
  unfold be4
  rw [List.getElem?_reverse (by rw [leB_len]; exact hi), leB_len]
  simp [leB, show 4 - 1 - i < 4 by omega]
theorem laid_at : ∀ (s : List UInt32) (i : Nat), i < 4 * s.length → (laidL s)[i]? = some (byt ((nth s (i / 4)).toNat / 256 ^ (3 - i % 4)))
  | [], i, h => by simp at h
  | x :: r, i, h => by
    have e : laidL (x :: r) = be4 x ++ laidL r := rfl
    rw [e]
    by_cases hi : i < 4
    · rw [List.getElem?_append_left (by rw [be4_len]; exact hi), be4_at x i hi, show i / 4 = 0 by omega, show i % 4 = i by omega]
      rfl
    · rw [List.getElem?_append_right (by rw [be4_len]; omega), be4_len, laid_at r (i - 4) (by simp at h; omega), show (i - 4) % 4 = i % 4 by omega]
      obtain ⟨k, hk⟩ : ∃ k, i / 4 = k + 1 := ⟨i / 4 - 1, by omega⟩
      rw [hk, show (i - 4) / 4 = k by omega]
      rfl
theorem laid_byte (s : List UInt32) (i k : Nat) (hk : k = 24 - 8 * (i % 4)) : (((sU k (nth s (i / 4))).toNat : Int)) % 256 = ((byt ((nth s (i / 4)).toNat / 256 ^ (3 - i % 4))).toNat : Int) := by
  rw [sU_toNat, byt_toNat, p256, show 8 * (3 - i % 4) = k by omega]
  omega
def laidT (s : List UInt32) (i : Nat) : List UInt8 := (laidL s).take i ++ List.replicate (32 - i) 0
theorem laidT_next (s : List UInt32) (i : Nat) (hs : s.length = 8) (hi : i < 32) : (laidT s i).set i (byt ((nth s (i / 4)).toNat / 256 ^ (3 - i % 4))) = laidT s (i + 1) := by
  have h1 := laid_at s i (by omega)
  obtain ⟨hl, hv⟩ := List.getElem?_eq_some_iff.1 h1
  unfold laidT
  rw [List.set_append_right _ _ (by simp; omega), List.length_take, show i - min i (laidL s).length = 0 by omega, show 32 - i = (32 - (i + 1)) + 1 by omega, List.replicate_succ, List.set_cons_zero, List.take_succ_eq_append_getElem hl, hv]
  simp
theorem laidT_at (s : List UInt32) (i : Nat) (hs : s.length = 8) (hi : i < 32) : (laidT s i)[i]? = some 0 := by
  have hl : (laidL s).length = 32 := by rw [laidL_len, hs]
  unfold laidT
  rw [List.getElem?_append_right (by simp; omega), List.length_take, show i - min i (laidL s).length = 0 by omega, show 32 - i = (31 - i) + 1 by omega]
  rfl
theorem laidT_end (s : List UInt32) (hs : s.length = 8) : laidT s 32 = laidL s := by
  have hl : (laidL s).length = 32 := by rw [laidL_len, hs]
  unfold laidT
  rw [List.take_of_length_le (by omega)]; simp
theorem rSum_any (B : Nat) (A : Option Addr) (n c : Nat) (l : List UInt8) (w : World) (hr : Row w B A n c (cs8 l)) (hB : B ≤ w.heap.size) (hl : n ≤ 1073741824) :
    Calls Tryz.prog 61 #[.slice A n c] w (Sum32 w l) := by
  obtain ⟨i0, hi, hz0, hz1, hz2⟩ := info_parts info8
  have hln := hr.len
  rw [cs8_len] at hln
  have HL := hide hln
  clear hln
  go_enter Tryz.func61, Tryz.ntmps61
  go_wp2_with fail
  generalize hw : World.alloc _ _ = w1
  have hb : Below w.heap.size w w1 := by rw [← hw]; exact (Below.refl _ w).alloc (Nat.le_refl _) _
  have hb0 : Blk w1 w.heap.size 49 (cs8 (List.replicate 32 0)) := by rw [← hw]; exact Blk.at _ _ _ rfl
  clear hw
  have hs1 := hb.size
  have hl0 := hb0.lt
  refine (rPad_ok n w1 (by omega)).mono ?_
  rw [pdL_ok n (by omega), pdE_ok n (by omega)]
  rintro e w2 ⟨A2, n2, c2, rfl, ho2, hbw⟩
  replace hb0 := hb0.keep hbw hl0
  replace hb := hb.trans (hbw.mono hs1)
  have hn2 : n2 = padZ n + 9 := by have := own8_len ho2; rw [padL_len] at this; exact this.symm
  have hr2 := Row.of_own ho2
  clear hbw ho2 hs1
  have hs2 := hb.size
  have HN2 := hide hn2
  have hn2b : n2 ≤ 72 := by rw [hn2]; have := padZ_lt n; omega
  replace hl0 := hb0.lt
  clear hn2
  go_wp2_with (first
    | (at_builtin; refine wpList_append_row rfl (.tmp 18) (.tmp 19) 29 rfl w2.heap.size 5 i0 _ 1 Tryz.underlying29 hi hz0 hz1 hz2 rfl _ 0 [] rfl (World.ownsRow_nil _ _ _ _) B _ _ _ _ rfl (hr.keep hb hB) (cs8_one _) (by unfold maxLen; omega) (by omega) w2 (Below.refl _ _) (Nat.le_refl _) ?_; intro A3 c3 w3 ho3 hb3 hg3; simp only [Nat.zero_add, List.nil_append] at ho3)
    | (at_builtin; refine wpList_append_row rfl (.tmp 21) (.tmp 22) 29 rfl w2.heap.size 5 i0 _ 1 Tryz.underlying29 hi hz0 hz1 hz2 rfl _ _ _ rfl ho3 w2.heap.size _ _ _ _ rfl (hr2.keep hb3 (Nat.le_refl _)) (cs8_one _) (by unfold maxLen; omega) (by omega) w2 hb3 (Nat.le_refl _) ?_; intro A4 c4 w4 ho4 hb4 hg4))
  have hr4 := Row.of_own ho4
  rw [← cs8_app] at hr4
  have hb04 := hb0.keep hb4 hl0
  have hbb := hb.trans (hb4.mono hs2)
  clear ho4 ho3 hg3 hg4 hb3 hb4 hr2 hb0 hb
  have hs4 := hbb.size
  replace hl0 := hb04.lt
  obtain ⟨q, HQ⟩ : ∃ q, Hid (n + n2 = 64 * q) := ⟨(n + n2) / 64, by have h1 := pad_whole n; have h2 := HN2.out; show _ = _; omega⟩
  obtain ⟨C, HC⟩ : ∃ C, Hid (C = l ++ padL n) := ⟨_, rfl⟩
  rw [← HC.out] at hr4
  obtain ⟨nn, HNN⟩ : ∃ x, Hid (x = n + n2) := ⟨_, rfl⟩
  rw [← HNN.out] at hr4 HQ ⊢
  have hnn : nn ≤ 1099511627776 := by rw [HNN.out]; omega
  refine (rFirst_any w4).mono ?_
  rintro e w5 ⟨rfl, hbw⟩
  have hr5 := hr4.keep hbw (Nat.le_refl _)
  have hb05 := hb04.keep hbw hl0
  have hbb5 := hbb.trans (hbw.mono hs4)
  have hs45 := hbw.size
  clear hr4 hb04 hbb hbw
  have hfl : (cs32 firstL).length = 8 := rfl
  go_wp2_with (refine wpList_storeB rfl 115 (.tmp 6) (.tmp 24) rfl w5.heap.size (cs32 firstL) rfl rfl 115 (zeros32 8) (Blk.at _ _ _ rfl) 8 size8w hfl rfl (cs32_one _) ?_)
  rw [World.setRow_alloc_new]
  generalize hw6 : World.alloc _ _ = w6
  have h6 : Blk w6 w5.heap.size 115 (cs32 firstL) := by rw [← hw6]; exact Blk.at _ _ _ rfl
  have hb6 : Below w5.heap.size w5 w6 := by rw [← hw6]; exact (Below.refl _ _).alloc (Nat.le_refl _) _
  clear hw6
  have hr6 := hr5.keep hb6 hs45
  have hb06 := hb05.keep hb6 (by omega)
  have hbb6 := hbb5.trans (hb6.mono (by omega))
  clear hr5 hb05 hbb5 hb6
  go_loopw [7] (fun i wr => ∃ (j m : Nat), j ≤ q ∧ i = .int .i64 (m : Int) ∧ Hid (m = 64 * j) ∧ Blk wr w5.heap.size 115 (cs32 (overL firstL C j)) ∧ Blk wr w.heap.size 49 (cs8 (List.replicate 32 0)) ∧ Row wr w4.heap.size A4 nn c4 (cs8 C) ∧ Below w.heap.size w wr) (fun i _ => nn - (intOf i).toNat)
  case atStart => exact ⟨0, 0, Nat.zero_le _, rfl, rfl, h6, hb06, hr6, hbb6⟩
  case round =>
    clear h6 hb06 hr6 hbb6
    obtain ⟨j, m, hj, rfl, HM, h6, hb0, hr, hb⟩ := hrel
    have hbs := hb.size
    have hl6 := h6.lt
    by_cases hlt : j < q
    · have hmn : m + 64 ≤ nn := by rw [HM.out, HQ.out]; omega
      have hmi : (m : Int) < (nn : Int) := by omega
      obtain ⟨p, hp⟩ : ∃ p : Nat, (m : Int) + 64 = (p : Int) := ⟨m + 64, by omega⟩
      have hwp : IntKind.i64.wrap (p : Int) = (p : Int) := by simp [IntKind.wrap, IntKind.signed, IntKind.bits]; omega
      obtain ⟨A2', c2', hsl, hr2⟩ := hr.sliced Tryz.underlying29 size8 (lo := m) (hi := p) (by omega) (by omega) (m : Int) (p : Int) rfl rfl
      rw [show p - m = 64 by omega] at hsl hr2
      have HR : Hid (((cs8 C).drop m).take 64 = cs8 ((C.drop (64 * j)).take 64)) := by show _ = _; rw [HM.out]; simp [cs8, List.map_drop, List.map_take]
      rw [HR.out] at hr2
      have HO : Hid (stS (overL firstL C j) ((C.drop (64 * j)).take 64) = overL firstL C (j + 1)) := by
        show _ = _
        unfold stS
        rw [if_pos (by have := hr2.len; rwa [cs8_len] at this), overL]
      have h10 := overL_len firstL_len C (j + 1)
      obtain ⟨a, b, c', d, e, f, g, h, h8⟩ := eight (overL_len firstL_len C j)
      rw [h8] at h6 HO
      obtain ⟨c0, c1, c2'', c3', c4', c5, c6, c7⟩ := eight_cells h6
      clear h8
      obtain ⟨S, HS⟩ : ∃ S, Hid (S = overL firstL C (j + 1)) := ⟨_, rfl⟩
      rw [← HS.out] at HO h10
      have hSl : (cs32 S).length = 8 := by rw [cs32_len, h10]
      have hstA := fun W : World => store_new W hSl
      have hz32 : (zeros32 8).length = (cs32 S).length := by rw [hSl]; rfl
      go_wp2_with fail
      go_region_with (first
        | (go_at_call 94; refine (rStep_ok w4.heap.size A2' c2' _ [a, b, c', d, e, f, g, h] _ (hr2.keep (B' := wr.heap.size) (by first | exact (Below.refl _ wr).drew | exact (Below.refl _ wr).drew.alloc (by simp) _ | exact ((Below.refl _ wr).alloc (by simp) _).drew) (by omega)) (by simp; omega) rfl).mono ?_; rintro e9 w1 ⟨rfl, hbw⟩; rw [HO.out]; have hx1 : Below wr.heap.size wr w1 := (by first | exact (Below.refl _ wr).drew.trans (hbw.mono (by simp)) | exact ((Below.refl _ wr).drew.alloc (by simp) _).trans (hbw.mono (by simp)) | exact ((Below.refl _ wr).alloc (by simp) _).drew.trans (hbw.mono (by simp))); (first | (have hz4 : Blk w1 wr.heap.size 115 (zeros32 8) := (by first | exact keep_new hbw | exact keep_new' hbw); have hst4 := run_storeB (P := Tryz.prog) hz4 (cs32 S) hz32 (cs32_one _)) | skip)))
      all_goals
        clear hstA c0 c1 c2'' c3' c4' c5 c6 c7
        (first
          | (have h8b := hz4.row (cs32 S); have hx2 := below_setRow (g := wr.heap.size) hx1 (Nat.le_refl _) (cs32 S).toArray; clear hst4 hz4; generalize World.setRow w1 _ _ = w7 at h8b hx2 ⊢; obtain ⟨g8, hg8e⟩ : ∃ g, g = wr.heap.size := ⟨_, rfl⟩; rw [← hg8e] at h8b ⊢; have hg8 : wr.heap.size ≤ g8 := Nat.le_of_eq hg8e.symm; clear hg8e)
          | (have h8b := Blk.new w1 115 (cs32 S); have hx2 := hx1.alloc hx1.size (.cells (cs32 S).toArray 115 (0, 0)); have hg8 := hx1.size; generalize World.alloc w1 _ = w7 at h8b hx2 ⊢; generalize w1.heap.size = g8 at h8b hg8 ⊢))
        have k6 := h6.keep hx2 hl6
        have k0 := hb0.keep hx2 (by omega)
        have kr := hr.keep hx2 (by omega)
        have kb := hb.trans (hx2.mono hbs)
        have k7 := k6.row (cs32 S)
        have k8 := k0.rowOther (h := w5.heap.size) (by omega) (cs32 S).toArray
        have k9 := kr.keep (below_setRow (Below.refl w4.heap.size _) hs45 (cs32 S).toArray) (Nat.le_refl _)
        have k10 := below_setRow (g := w5.heap.size) kb (by omega) (cs32 S).toArray
        clear hx2 hx1 hbw
        go_wp2_with (first
          | (refine wpList_loadB rfl 115 (.tmp 8) rfl _ rfl 115 _ h8b 8 22 Tryz.underlying115 size8w hSl ?_)
          | (refine wpList_storeB rfl 115 (.tmp 6) (.tmp 41) rfl _ (cs32 S) rfl rfl 115 _ k6 8 size8w hSl rfl (cs32_one _) ?_))
        go_roundw
        case rel => exact ⟨j + 1, p, by omega, rfl, by show _ = _; have := HM.out; omega, by rw [← HS.out]; exact k7, k8, k9, k10⟩
        case measure => simp [intOf]; omega
    · have hjq : j = q := by omega
      have hmn : ¬ m < nn := by have h1 := HM.out; have h2 := HQ.out; omega
      have hmd : decide (m < nn) = false := by simp; omega
      rw [hjq] at h6
      obtain ⟨S, HS⟩ : ∃ S, Hid (S = overL firstL C q) := ⟨_, rfl⟩
      have hS8 : S.length = 8 := by rw [HS.out]; exact overL_len firstL_len _ _
      rw [← HS.out] at h6
      have HE : Hid (sumL l = laidL S) := by
        show _ = _
        rw [HS.out, HC.out]
        unfold sumL sumS
        have h1 := HL.out
        have h2 := HN2.out
        have h3 := HQ.out
        have h4 := HNN.out
        subst h1
        rw [show (l.length + (padZ l.length + 9)) / 64 = q by omega]
      clear hr hjq hlt
      go_wp2
      generalize hw9 : World.alloc wr _ = w9
      have hg10 : Blk w9 wr.heap.size 49 (cs8 (laidT S 0)) := by rw [← hw9]; exact Blk.at _ _ _ rfl
      have k6 : Blk w9 w5.heap.size 115 (cs32 S) := by rw [← hw9]; exact h6.alloc _
      have k0 : Blk w9 w.heap.size 49 (cs8 (List.replicate 32 0)) := by rw [← hw9]; exact hb0.alloc _
      have kb : Below w.heap.size w w9 := by rw [← hw9]; exact hb.alloc hbs _
      clear hw9 h6 hb0 hb
      generalize wr.heap.size = g10 at *
      go_loopw [11] (fun i wr => ∃ (k : Nat), k ≤ 32 ∧ i = .int .i64 (k : Int) ∧ Blk wr g10 49 (cs8 (laidT S k)) ∧ Blk wr w5.heap.size 115 (cs32 S) ∧ Blk wr w.heap.size 49 (cs8 (List.replicate 32 0)) ∧ Below w.heap.size w wr) (fun i _ => 32 - (intOf i).toNat)
      case atStart => exact ⟨0, Nat.zero_le _, rfl, hg10, k6, k0, kb⟩
      case round =>
        clear hg10 k6 k0 kb
        obtain ⟨k, hk, rfl, hg10, k6, k0, kb⟩ := hrel
        by_cases hlt : k < 32
        · obtain ⟨x, hx, HX⟩ : ∃ x : Nat, (k : Int) / 4 = (x : Int) ∧ Hid (x = k / 4) := ⟨k / 4, by omega, rfl⟩
          obtain ⟨y, hy, HY⟩ : ∃ y : Nat, (24 : Int) - 8 * ((k : Int) % 4) = (y : Int) ∧ Hid (y = 24 - 8 * (k % 4)) := ⟨24 - 8 * (k % 4), by omega, rfl⟩
          have hx8 : (x : Int) < 8 := by omega
          have hy0 : (0 : Int) ≤ (y : Int) := by omega
          have hy31 : (y : Int) ≤ 31 := by omega
          have hcx := k6.cell (j := x) (v := .int .u32 ((nth S x).toNat : Int)) (by rw [cs32_at (show x < S.length by omega), nth_at])
          have hlb := laid_byte S k y HY.out
          have hN := laidT_next S k hS8 hlt
          rw [← HX.out] at hlb hN
          have hc := hg10.cell (j := k) (v := .int .u8 0) (by simp [cs8, laidT_at S k hS8 hlt])
          have hfz := hg10.frozen k
          have HK := hide (hg10.set k (.int .u8 ((byt ((nth S x).toNat / 256 ^ (3 - k % 4))).toNat : Int)))
          rw [cs8_set, hN] at HK
          have H6 := hide (k6.other (h := g10) (by omega) k (.int .u8 ((byt ((nth S x).toNat / 256 ^ (3 - k % 4))).toNat : Int)))
          have H0 := hide (k0.other (h := g10) (by omega) k (.int .u8 ((byt ((nth S x).toNat / 256 ^ (3 - k % 4))).toNat : Int)))
          have HB := hide (kb.setCell (p := ⟨g10, k, none⟩) (show w.heap.size ≤ g10 by omega) (.int .u8 ((byt ((nth S x).toNat / 256 ^ (3 - k % 4))).toNat : Int)))
          clear hg10 k6 k0 kb hN
          go_wp2_with (go_at_call 95; refine (shifted_at _ _ _ hy0 hy31).mono ?_; rintro e' w' ⟨rfl, rfl⟩)
          go_roundw
          case rel => exact ⟨k + 1, by omega, by go_num, HK, H6, H0, HB⟩
          case measure => simp [intOf]; omega
        · obtain rfl : k = 32 := by omega
          rw [laidT_end S hS8, ← HE.out] at hg10
          have hl32 : (cs8 (sumL l)).length = 32 := by rw [cs8_len, sumL_len]
          go_wp2_with (first
            | (refine wpList_loadB rfl 49 (.tmp 10) rfl _ rfl 49 _ hg10 32 5 Tryz.underlying49 size32b hl32 ?_)
            | (refine wpList_storeB rfl 49 (.tmp 2) (.tmp 59) rfl _ (cs8 (sumL l)) rfl rfl 49 _ k0 32 size32b hl32 rfl (cs8_one _) ?_))
          refine ret_cell rfl Tryz.underlying49 size32b rfl (k0.row _) hl32 rfl ?_
          exact ⟨rfl, below_setRow kb (Nat.le_refl _) _⟩
end Go.Proofs.YtdikiabjkmigdaaGreatDoor
