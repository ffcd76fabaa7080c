/-
  Contracts of package crc: the closure of On, On, Sum.
-/
import Derived.Test.YtahnfkoakaimhaaKMath2
import Derived.Test.YtahnfkoakaimhaaOLent
namespace Go.Proofs.Ytahnfkoakaimhaa
open Go.RowKit
set_option maxHeartbeats 400000

/-- One new cell of 32 bits. -/
def Cell (w : World) (base g : Nat) (r : Nat) : Prop := w.ownsRow base 37 1 (.slice (some ⟨g, 0, none⟩) 1 1) 1 [.int .u32 (r : Int)]
theorem low_bit (n r : Nat) (hn : n ≤ 4294967295) (hr : r ≤ 4294967295) : bits .and .u32 (bits .xor .u32 (n : Int) (r : Int)) 1 = (((r ^^^ (n % 2)) % 2 : Nat) : Int) := by
  rw [u32_xor_nat n r (by omega) (by omega), show (1 : Int) = ((1 : Nat) : Int) from rfl, u32_and_nat _ _ (x_lt (by omega) (by omega)) (by omega), Nat.and_one_is_mod, x_mod, x_mod, Nat.mod_mod, Nat.xor_comm]
theorem half_bit (n r : Nat) : (r ^^^ (n % 2)) / 2 = r / 2 := by rw [x_div, show n % 2 / 2 = 0 by omega, Nat.xor_zero]
theorem tr_no {n r : Nat} (h : (r ^^^ (n % 2)) % 2 = 0) : tr (r ^^^ (n % 2)) = r / 2 := by
  unfold tr; rw [if_neg (by omega), half_bit]
theorem tr_yes {n r : Nat} (h : (r ^^^ (n % 2)) % 2 = 1) : tr (r ^^^ (n % 2)) = r / 2 ^^^ 3988292384 := by
  unfold tr; rw [if_pos h, half_bit]
theorem xor_poly (r : Nat) (hr : r ≤ 4294967295) : bits .xor .u32 ((r : Int) / 2) 3988292384 = ((r / 2 ^^^ 3988292384 : Nat) : Int) := by
  rw [show ((r : Int) / 2) = ((r / 2 : Nat) : Int) by omega, show (3988292384 : Int) = ((3988292384 : Nat) : Int) from rfl, u32_xor_nat _ _ (by omega) (by omega)]
theorem bit_any (g base n r : Nat) (w : World) (ho : Cell w base g r) (hn : n ≤ 255) (hr : r ≤ 4294967295) :
    Calls Try.prog 65 #[.int .u32 (n : Int), .pointer (some ⟨g, 0, none⟩)] w fun e w' => e = .returned (.tuple #[]) ∧ Cell w' base g (tr (r ^^^ (n % 2))) ∧ w.grownBy w' (some g) := by
  have hc := ho.cellAt 0 (by omega)
  have hfz := ho.frozenAt 0
  have hst := ho.stored 0 (.int .u32 ((r : Int) / 2))
  have hx := low_bit n r (by omega) hr
  have HST := hide hst
  rcases bit_cases (r ^^^ (n % 2)) with h | h
  · rw [h] at hx
    have HT := hide (tr_no h)
    clear ho h hst
    go_enter Try.func65, Try.ntmps65
    go_wp2
    go_end0
    exact ⟨rfl, by unfold Cell; rw [HT.out]; exact HST.out.1, HST.out.2⟩
  · rw [h] at hx
    have HT := hide (tr_yes h)
    have hc1 := hst.1.cellAt 0 (by omega)
    have hfz1 := hst.1.frozenAt 0
    have hst1 := hst.1.stored 0 (.int .u32 (bits .xor .u32 ((r : Int) / 2) 3988292384))
    have HST1 := hide hst1
    have HX := hide (xor_poly r hr)
    clear ho h hst hst1
    go_enter Try.func65, Try.ntmps65
    go_wp2
    go_end0
    exact ⟨rfl, by unfold Cell; rw [HT.out, ← HX.out]; exact HST1.out.1, ogrown_trans HST.out.2 HST1.out.2⟩
theorem bit_int (g base n r : Nat) (ni : Int) (w : World) (hni : ni = (n : Int)) (ho : Cell w base g r) (hn : n ≤ 255) (hr : r ≤ 4294967295) :
    Calls Try.prog 65 #[.int .u32 ni, .pointer (some ⟨g, 0, none⟩)] w fun e w' => e = .returned (.tuple #[]) ∧ Cell w' base g (tr (r ^^^ (n % 2))) ∧ w.grownBy w' (some g) := by
  subst hni; exact bit_any g base n r w ho hn hr
theorem run_next (r k x : Nat) : tr (run r k x ^^^ (x / 2 ^ k % 2)) = run r (k + 1) x := by rw [run_add]; rfl
theorem reg_next (r : Nat) (l : List UInt8) (j : Nat) (h : j < l.length) : run (reg r (l.take j)) 8 l[j].toNat = reg r (l.take (j + 1)) := by
  rw [List.take_succ_eq_append_getElem h, reg_app, reg_cons, reg_nil]
theorem shr_cell (c : UInt8) (k : Nat) : ∃ x : Nat, (c.toNat : Int) / 2 ^ k = (x : Int) ∧ x ≤ 255 ∧ Hid (x = c.toNat / 2 ^ k) :=
  ⟨c.toNat / 2 ^ k, by rw [Int.natCast_ediv, Int.natCast_pow]; rfl, Nat.le_trans (Nat.div_le_self _ _) (by have := c.toNat_lt; omega), rfl⟩
def Sums (w : World) (s : Nat) (l : List UInt8) (e : Ending) (w' : World) : Prop := e = .returned (.int .u32 (crcOn s l : Int)) ∧ Below w.heap.size w w'
theorem inv_cell (s : Nat) (h : s ≤ 4294967295) : bits .xor .u32 IntKind.u32.max (s : Int) = (inv s : Int) := by
  rw [show IntKind.u32.max = ((4294967295 : Nat) : Int) from rfl, u32_xor_nat _ _ (by omega) (by omega), Nat.xor_comm, ← inv_x (by omega)]
theorem oOn_any (B : Nat) (s : Nat) (A : Option Addr) (n c : Nat) (l : List UInt8) (w : World) (hr : Row w B A n c (cs8 l)) (hB : B ≤ w.heap.size) (hs : s ≤ 4294967295) :
    Calls Try.prog 59 #[.int .u32 (s : Int), .slice A n c] w (Sums w s l) := by
  have hn := hr.len
  rw [cs8_len] at hn
  subst hn
  have hm := hr.max
  have hcap := hr.cap
  unfold maxLen at hm
  have hv := inv_cell s hs
  have hus : ¬ IntKind.u32.signed = true := by decide
  go_enter Try.func59, Try.ntmps59
  go_wp2
  go_loopw [15] (fun i wr => ∃ (j r : Nat), j ≤ l.length ∧ i = .int .i64 (j : Int) ∧ r ≤ 4294967295 ∧ Hid (r = reg (inv s) (l.take j)) ∧ Cell wr w.heap.size w.heap.size r ∧ Below w.heap.size w wr) (fun i _ => l.length - (intOf i).toNat)
  case atStart => exact ⟨0, inv s, Nat.zero_le _, rfl, by unfold inv; omega, rfl, World.ownsRow_lit (size := 1) w #[.int .u32 (inv s : Int)] 1 (Nat.le_refl _) (by unfold maxLen; omega) rfl, (Below.refl _ _).alloc (Nat.le_refl _) _⟩
  case round =>
    obtain ⟨j, r, hj, rfl, hrb, HR, ho, hb⟩ := hrel
    have hbs := hb.size
    by_cases hlt : j < l.length
    · obtain ⟨b, o, u, rfl, _, hu, hcell⟩ := (hr.keep hb hB).get hlt
      rw [cs8_at hlt] at hu
      obtain rfl := Option.some.inj hu
      clear hu
      have hc2 := l[j].toNat_lt
      go_wp2
      go_loopw [19] (fun i wr => ∃ (k r' : Nat), k ≤ 8 ∧ i = .int .i64 (k : Int) ∧ r' ≤ 4294967295 ∧ Hid (r' = run r k l[j].toNat) ∧ Cell wr w.heap.size w.heap.size r' ∧ Below w.heap.size w wr) (fun i _ => 8 - (intOf i).toNat)
      case atStart => exact ⟨0, r, Nat.zero_le _, rfl, hrb, rfl, ho, hb⟩
      case round =>
        clear ho hb hcell
        obtain ⟨k, r', hk, rfl, hrb', HR', ho, hb⟩ := hrel
        have hbs := hb.size
        by_cases hk8 : k < 8
        · obtain ⟨x, hx, hxb, HX⟩ := shr_cell l[j] k
          have HT := hide (run_next r k l[j].toNat)
          go_wp2_with (go_at_call 65; refine (bit_any _ _ x r' _ ho hxb hrb').mono ?_; rintro e w2 ⟨rfl, ho2, hg2⟩)
          go_roundw
          case rel => exact ⟨k + 1, _, by omega, by go_num, Nat.le_of_lt_succ (tr_lt (x_lt (by omega) (by omega))), by show _ = _; rw [HX.out, HR'.out, HT.out], ho2, hb.grown hg2 hbs (fun k hk => by cases hk; exact Nat.le_refl _)⟩
          case measure => simp [intOf]; omega
        · obtain rfl : k = 8 := by omega
          have HT := hide (reg_next (inv s) l j hlt)
          go_wp2
          go_roundw
          case rel => exact ⟨j + 1, r', by omega, by go_num, hrb', by show _ = _; rw [HR'.out, HR.out, HT.out], ho, hb⟩
          case measure => simp [intOf]; omega
    · obtain rfl : j = l.length := by omega
      have hc := ho.cellAt 0 (by omega)
      have hv2 := inv_cell r hrb
      go_wp2
      go_ret
      exact ⟨by rw [HR.out, List.take_length]; rfl, hb⟩
theorem Sum_any (B : Nat) (A : Option Addr) (n c : Nat) (l : List UInt8) (w : World) (hr : Row w B A n c (cs8 l)) (hB : B ≤ w.heap.size) :
    Calls Try.prog 52 #[.slice A n c] w (Sums w 0 l) := by
  go_enter Try.func52, Try.ntmps52
  go_wp2_with (go_at_call 59; refine (oOn_any B 0 _ _ _ l _ hr hB (by omega)).mono ?_; rintro e w2 ⟨rfl, hb2⟩)
  go_ret
  exact ⟨rfl, hb2⟩
end Go.Proofs.Ytahnfkoakaimhaa
