/-
  The statement CrcLinear: the call returns true and changes nothing that was there.
-/
import Derived.Test.YtkabmpiofpgoaaaKSums
import Derived.StillTailTactics
namespace Go.Proofs.Ytkabmpiofpgoaaa
open Go.RowKit
set_option maxHeartbeats 1600000

theorem make_all (n : Nat) (h : n ≤ 65536) (W : World) :
    (Instr.makeSlice 23 (.int .i64 (n : Int)) (.int .i64 (n : Int))).run Try.prog W = .ok (.slice (some ⟨W.heap.size, 0, none⟩) n n) (W.alloc (.cells (cs8 (List.replicate n 0)).toArray 5)) := by
  have h1 := make8 n 0 (by omega) W
  have e : cs8 (List.replicate n 0) = List.replicate (n + 0) (.int .u8 0) := by simp [cs8]
  rw [e]
  simpa using h1
theorem row_head {w : World} {B n c k : Nat} {A : Option Addr} {l : List UInt8} (h : Row w B A n c (cs8 l)) (hk : k ≤ n) :
    ∃ A' c', (∀ W, (Instr.slice 23 (.slice A n c) none (some (.int .i64 (k : Int))) none).run Try.prog W = .ok (.slice A' k c') W) ∧ Row w B A' k c' (cs8 (l.take k)) := by
  obtain ⟨A9, c9, hsl, hr9⟩ := h.headed Try.underlying23 size8 (hi := k) hk (k : Int) rfl
  have e9 : (cs8 l).take k = cs8 (l.take k) := by simp [cs8]
  rw [e9] at hr9
  exact ⟨A9, c9, hsl, hr9⟩
theorem min3 (n n' n'' : Nat) : ∃ k : Nat, k ≤ n ∧ k ≤ n' ∧ k ≤ n'' ∧ ∀ ts t (W : World), (Builtin.min_ ts t #[.int .i64 (n : Int), .int .i64 (n' : Int), .int .i64 (n'' : Int)]).run Try.prog W = .ok (.int .i64 (k : Int)) W := by
  refine ⟨min (min n n') n'', by omega, by omega, by omega, fun ts t W => ?_⟩
  have e : (if (n'' : Int) < (if (n' : Int) < (n : Int) then (n' : Int) else (n : Int)) then (n'' : Int) else (if (n' : Int) < (n : Int) then (n' : Int) else (n : Int))) = ((min (min n n') n'' : Nat) : Int) := by
    split <;> split <;> omega
  rw [← e]
  simp [Builtin.min_, Builtin.min2]
/-- The exclusive or of the first k bytes of three. -/
def x3 (l x y : List UInt8) (k : Nat) : List UInt8 := xl (xl (l.take k) (x.take k)) (y.take k)
theorem x3_len {l x y : List UInt8} {k : Nat} (h1 : k ≤ l.length) (h2 : k ≤ x.length) (h3 : k ≤ y.length) : (x3 l x y k).length = k := by
  unfold x3
  rw [xl_len _ _ (by rw [xl_len _ _ (by simp; omega)]; simp; omega)]; simp; omega
theorem x3_at {l x y : List UInt8} {k j : Nat} (h1 : j < l.length) (h2 : j < x.length) (h3 : j < y.length) (hj : j < k) : (x3 l x y k)[j]? = some (l[j] ^^^ x[j] ^^^ y[j]) := by
  unfold x3 xl
  simp [List.getElem?_zipWith, hj, h1, h2, h3]
theorem x3_cell {l x y : List UInt8} {j : Nat} (h1 : j < l.length) (h2 : j < x.length) (h3 : j < y.length) : bits .xor .u8 (bits .xor .u8 (l[j].toNat : Int) (x[j].toNat : Int)) (y[j].toNat : Int) = ((l[j] ^^^ x[j] ^^^ y[j]).toNat : Int) := by
  have a1 := l[j].toNat_lt
  have a2 := x[j].toNat_lt
  have a3 := y[j].toNat_lt
  have a4 : l[j].toNat ^^^ x[j].toNat < 2 ^ 8 := Nat.xor_lt_two_pow a1 a2
  rw [u8_xor_nat _ _ (by omega) (by omega), u8_xor_nat _ _ (by omega) (by omega), UInt8.toNat_xor, UInt8.toNat_xor]
theorem cs8_set (l : List UInt8) (j : Nat) (c : UInt8) : (cs8 l).set j (.int .u8 (c.toNat : Int)) = cs8 (l.set j c) := by simp [cs8, List.map_set]
theorem set_step {zs X : List UInt8} {j : Nat} {u : UInt8} (hz : j < zs.length) (hX : X[j]? = some u) (h : zs.take j = X.take j) : (zs.set j u).take (j + 1) = X.take (j + 1) := by
  obtain ⟨hx, rfl⟩ := List.getElem?_eq_some_iff.1 hX
  rw [List.take_succ_eq_append_getElem (by simpa using hz), List.take_succ_eq_append_getElem hx, List.take_set_of_le (Nat.le_refl j), h, List.getElem_set_self]
theorem x3_sum {l x y : List UInt8} {k : Nat} (h1 : k ≤ l.length) (h2 : k ≤ x.length) (h3 : k ≤ y.length) :
    bits .xor .u32 (bits .xor .u32 (crcOn 0 (l.take k) : Int) (crcOn 0 (x.take k) : Int)) (crcOn 0 (y.take k) : Int) = (crcOn 0 (x3 l x y k) : Int) := by
  have b1 := crcOn_lt 0 (l.take k)
  have b2 := crcOn_lt 0 (x.take k)
  have b3 := crcOn_lt 0 (y.take k)
  rw [u32_xor_nat _ _ (by omega) (by omega), u32_xor_nat _ _ (x_lt (by omega) (by omega)) (by omega), x3, sum_linear _ _ _ (by simp; omega) (by simp; omega)]
theorem linear_walk (A : Option Addr) (n c : Nat) (l : List UInt8) (A' : Option Addr) (n' c' : Nat) (x : List UInt8) (A'' : Option Addr) (n'' c'' : Nat) (y : List UInt8) (w : World) (hr : Row w w.heap.size A n c (cs8 l)) (hx : Row w w.heap.size A' n' c' (cs8 x)) (hy : Row w w.heap.size A'' n'' c'' (cs8 y)) :
    Calls Try.prog 7 #[.slice A n c, .slice A' n' c', .slice A'' n'' c''] w fun e w' => e = .returned (.bool true) ∧ Below w.heap.size w w' := by
  by_cases hbig : 65536 < n
  · have hd : decide ((65536 : Int) < (n : Int)) = true := by simp; omega
    go_enter Try.func7, Try.ntmps7
    go_wp2_with (go_at_call 9; refine (known_any _).mono ?_; rintro e w1 ⟨rfl, hb1⟩)
    go_ret
    exact ⟨rfl, hb1⟩
  have hd : decide ((65536 : Int) < (n : Int)) = false := by simp; omega
  by_cases hbig' : 65536 < n'
  · have hd : decide ((65536 : Int) < (n' : Int)) = true := by simp; omega
    go_enter Try.func7, Try.ntmps7
    go_wp2_with (go_at_call 9; refine (known_any _).mono ?_; rintro e w1 ⟨rfl, hb1⟩)
    go_ret
    exact ⟨rfl, hb1⟩
  have hd' : decide ((65536 : Int) < (n' : Int)) = false := by simp; omega
  by_cases hbig'' : 65536 < n''
  · have hd : decide ((65536 : Int) < (n'' : Int)) = true := by simp; omega
    go_enter Try.func7, Try.ntmps7
    go_wp2_with (go_at_call 9; refine (known_any _).mono ?_; rintro e w1 ⟨rfl, hb1⟩)
    go_ret
    exact ⟨rfl, hb1⟩
  have hd'' : decide ((65536 : Int) < (n'' : Int)) = false := by simp; omega
  obtain ⟨k, hk1, hk2, hk3, hmin⟩ := min3 n n' n''
  have hmk := make_all k (by omega) w
  go_enter Try.func7, Try.ntmps7
  go_wp2
  have hln : l.length = n := by have := hr.len; rwa [cs8_len] at this
  have hxn : x.length = n' := by have := hx.len; rwa [cs8_len] at this
  have hyn : y.length = n'' := by have := hy.len; rwa [cs8_len] at this
  have HXL := hide (x3_len (l := l) (x := x) (y := y) (k := k) (by omega) (by omega) (by omega))
  clear hmk hmin
  go_loopw [9] (fun i wr => ∃ (j : Nat) (zs : List UInt8), j ≤ k ∧ i = .int .i64 (j : Int) ∧ Hid (zs.take j = (x3 l x y k).take j) ∧ wr.ownsRow w.heap.size 5 1 (.slice (some ⟨w.heap.size, 0, none⟩) k k) k (cs8 zs) ∧ Below w.heap.size w wr) (fun i _ => k - (intOf i).toNat)
  case atStart => exact ⟨0, List.replicate k 0, Nat.zero_le _, rfl, by show _ = _; simp, by simpa using World.ownsRow_lit (size := 1) (e := 5) w (cs8 (List.replicate k 0)).toArray k (Nat.le_refl _) (by unfold maxLen; omega) (by simp [cs8]), (Below.refl _ _).alloc (Nat.le_refl _) _⟩
  case round =>
    obtain ⟨j, zs, hj, rfl, HZ, ho, hb⟩ := hrel
    have hbs := hb.size
    by_cases hlt : j < k
    · have hzl := own8_len ho
      have hj1 : j < l.length := by omega
      have hj2 : j < x.length := by omega
      have hj3 : j < y.length := by omega
      obtain ⟨b, o, u, rfl, _, hu, hcell⟩ := (hr.keep hb (Nat.le_refl _)).get (show j < n by omega)
      obtain ⟨b', o', u', rfl, _, hu', hcell'⟩ := (hx.keep hb (Nat.le_refl _)).get (show j < n' by omega)
      obtain ⟨b'', o'', u'', rfl, _, hu'', hcell''⟩ := (hy.keep hb (Nat.le_refl _)).get (show j < n'' by omega)
      rw [cs8_at hj1] at hu
      rw [cs8_at hj2] at hu'
      rw [cs8_at hj3] at hu''
      obtain rfl := Option.some.inj hu
      obtain rfl := Option.some.inj hu'
      obtain rfl := Option.some.inj hu''
      have g0 : (j : Int) < (k : Int) := by omega
      have g1 : (j : Int) < (n : Int) := by omega
      have g2 : (j : Int) < (n' : Int) := by omega
      have g3 : (j : Int) < (n'' : Int) := by omega
      have hc1 := l[j].toNat_lt
      have hc2 := x[j].toNat_lt
      have hc3 := y[j].toNat_lt
      have hxc := x3_cell hj1 hj2 hj3
      have HS := hide (set_step (u := l[j] ^^^ x[j] ^^^ y[j]) (by omega) (x3_at (k := k) hj1 hj2 hj3 hlt) HZ.out)
      have hod := own_keep ho (Below.refl _ wr).drew
      have hbd := hb.drew
      have hfz := hod.frozenAt j
      have hcd := hod.cellAt j (by omega)
      rw [cs8_at (show j < zs.length by omega)] at hcd
      have hst := hod.stored j (.int .u8 ((l[j] ^^^ x[j] ^^^ y[j]).toNat : Int))
      rw [cs8_set] at hst
      have HST := hide hst
      have hds := hbd.size
      clear hu hu' hu'' hst ho hod
      go_wp2_with fail
      go_still_tail 17, (by kernel_rfl)
      change wpList _ _ _ _ _ wr.drew
      generalize wr.drew = w2 at hfz hcd HST hbd hds ⊢
      go_wp2
      go_roundw
      case rel => exact ⟨j + 1, _, by omega, by go_num, HS, HST.out.1, hbd.grown HST.out.2 hds (fun k hk => by cases hk; exact Nat.le_refl _)⟩
      case measure => simp [intOf]; omega
    · obtain rfl : j = k := by omega
      have hz : zs = x3 l x y j := by
        have h1 := HZ.out
        rwa [List.take_of_length_le (by have := own8_len ho; omega), List.take_of_length_le (by rw [HXL.out]; omega)] at h1
      subst hz
      obtain ⟨A1, c1, hsl1, hr1⟩ := row_head (k := j) (hr.keep hb (Nat.le_refl _)) hk1
      obtain ⟨A2, c2, hsl2, hr2⟩ := row_head (k := j) (hx.keep hb (Nat.le_refl _)) hk2
      obtain ⟨A3, c3, hsl3, hr3⟩ := row_head (k := j) (hy.keep hb (Nat.le_refl _)) hk3
      have hro := Row.of_own ho
      have he := x3_sum (l := l) (x := x) (y := y) (k := j) (by omega) (by omega) (by omega)
      go_wp2_with fail
      go_region_with (first
        | (go_at_call 13; refine (Sum_any wr.heap.size _ _ _ (x3 l x y j) _ hro.of_drew (Nat.le_refl _)).mono ?_; rintro e w1 ⟨rfl, hb1⟩)
        | (go_at_call 13; refine (Sum_any w.heap.size _ _ _ (l.take j) _ (hr1.of_drew.keep hb1 hbs) ?_).mono ?_; (exact Nat.le_trans hbs hb1.size); rintro e w2 ⟨rfl, hb2⟩)
        | (go_at_call 13; refine (Sum_any w.heap.size _ _ _ (x.take j) _ ((hr2.of_drew.keep hb1 hbs).keep hb2 ?_) ?_).mono ?_; (exact Nat.le_trans hbs hb1.size); (exact Nat.le_trans (Nat.le_trans hbs hb1.size) hb2.size); rintro e w3 ⟨rfl, hb3⟩)
        | (go_at_call 13; refine (Sum_any w.heap.size _ _ _ (y.take j) _ (((hr3.of_drew.keep hb1 hbs).keep hb2 ?_).keep hb3 ?_) ?_).mono ?_; (exact Nat.le_trans hbs hb1.size); (exact Nat.le_trans (Nat.le_trans hbs hb1.size) hb2.size); (exact Nat.le_trans (Nat.le_trans (Nat.le_trans hbs hb1.size) hb2.size) hb3.size); rintro e w4 ⟨rfl, hb4⟩)
        | (go_at_call 9; refine (known_any _).mono ?_; rintro e w5 ⟨rfl, hb5⟩))
      have hb01 : Below w.heap.size w w1 := hb.drew.trans (hb1.mono hbs)
      have hb02 : Below w.heap.size w w2 := hb01.trans (hb2.mono hb01.size)
      have hb03 : Below w.heap.size w w3 := hb02.trans (hb3.mono hb02.size)
      have hb04 : Below w.heap.size w w4 := hb03.trans (hb4.mono hb03.size)
      go_wp2
      go_ret
      exact ⟨rfl, hb04.trans (hb5.mono hb04.size)⟩
end Go.Proofs.Ytkabmpiofpgoaaa
