/-
  Contracts of the reference of layer 3 (midstreamref03): On, Sum, Seal, Open; and Count of layer 2's.
-/
import Derived.Test.YtahnfkoakaimhaaKPkg2
namespace Go.Proofs.Ytahnfkoakaimhaa
open Go.RowKit
set_option maxHeartbeats 400000

theorem i64_xor (a b : Nat) (ha : a < 4294967296) (hb : b < 4294967296) : bits .xor .i64 (a : Int) (b : Int) = ((a ^^^ b : Nat) : Int) := by
  have hx : a ^^^ b < 4294967296 := x_lt ha hb
  show IntKind.i64.wrap ((BitVec.ofInt 64 (a : Int) ^^^ BitVec.ofInt 64 (b : Int)).toNat : Int) = _
  rw [BitVec.toNat_xor, ofInt_u64 a (by omega), ofInt_u64 b (by omega)]
  simp only [IntKind.wrap, IntKind.bits, IntKind.signed]
  simp
  omega
theorem xor_poly64 (r : Nat) (hr : r ≤ 4294967295) : ∃ x : Nat, bits .xor .i64 ((r : Int) / 2) 3988292384 = (x : Int) ∧ x ≤ 4294967295 ∧ Hid (x = r / 2 ^^^ 3988292384) := by
  refine ⟨r / 2 ^^^ 3988292384, ?_, Nat.le_of_lt_succ (x_lt (by omega) (by omega)), rfl⟩
  rw [show ((r : Int) / 2) = ((r / 2 : Nat) : Int) by omega, show (3988292384 : Int) = ((3988292384 : Nat) : Int) from rfl, i64_xor _ _ (by omega) (by omega)]
theorem tr_same {n r : Nat} (h : r % 2 = n % 2) : tr (r ^^^ (n % 2)) = r / 2 := tr_no (by rw [x_mod, Nat.mod_mod, h, Nat.xor_self])
theorem tr_other {n r : Nat} (h : r % 2 ≠ n % 2) : tr (r ^^^ (n % 2)) = r / 2 ^^^ 3988292384 := tr_yes (by
  rw [x_mod, Nat.mod_mod]
  rcases bit_cases r with h1 | h1 <;> rcases bit_cases n with h2 | h2 <;> rw [h1, h2] at h ⊢ <;> simp at h ⊢)
theorem rOn_any (B : Nat) (s : Nat) (A : Option Addr) (n c : Nat) (l : List UInt8) (w : World) (hr : Row w B A n c (cs8 l)) (hs : s ≤ 4294967295) :
    Calls Try.prog 56 #[.int .u32 (s : Int), .slice A n c] w fun e w' => e = .returned (.int .u32 (crcOn s l : Int)) ∧ w = w' := by
  have hn := hr.len
  rw [cs8_len] at hn
  subst hn
  have hm := hr.max
  have hcap := hr.cap
  unfold maxLen at hm
  go_enter Try.func56, Try.ntmps56
  go_wp2
  go_loop [5, 6] (fun v i => ∃ (j r : Nat), j ≤ l.length ∧ i = .int .i64 (j : Int) ∧ r ≤ 4294967295 ∧ Hid (r = reg (inv s) (l.take j)) ∧ v = .int .i64 (r : Int)) (fun _ i => l.length - (intOf i).toNat)
  case atStart => exact ⟨0, inv s, Nat.zero_le _, rfl, by unfold inv; omega, rfl, by unfold inv; go_num⟩
  case round =>
    obtain ⟨j, r, hj, rfl, hrb, HR, rfl⟩ := hrel
    by_cases hlt : j < l.length
    · obtain ⟨b, o, u, rfl, _, hu, hcell⟩ := hr.get hlt
      rw [cs8_at hlt] at hu
      obtain rfl := Option.some.inj hu
      clear hu
      have hc2 := l[j].toNat_lt
      go_wp2
      go_loop [5, 7, 8] (fun v m i => ∃ (k r' x : Nat), k ≤ 8 ∧ i = .int .i64 (k : Int) ∧ r' ≤ 4294967295 ∧ Hid (r' = run r k l[j].toNat) ∧ v = .int .i64 (r' : Int) ∧ x ≤ 255 ∧ Hid (x = l[j].toNat / 2 ^ k) ∧ m = .int .i64 (x : Int)) (fun _ _ i => 8 - (intOf i).toNat)
      case atStart => exact ⟨0, r, l[j].toNat, Nat.zero_le _, rfl, hrb, rfl, rfl, by omega, by show _ = _; simp, rfl⟩
      case round =>
        clear hcell
        obtain ⟨k, r', x, hk, rfl, hrb', HR', rfl, hxb, HX, rfl⟩ := hrel
        by_cases hk8 : k < 8
        · have HT := hide (run_next r k l[j].toNat)
          have HD : Hid (x / 2 = l[j].toNat / 2 ^ (k + 1)) := by show _ = _; rw [HX.out, Nat.div_div_eq_div_mul, Nat.pow_succ]
          by_cases hp : r' % 2 = x % 2
          · have HS := hide (tr_same hp)
            have hq : ((r' : Int) % 2 != (x : Int) % 2) = false := by rw [show (r' : Int) % 2 = (x : Int) % 2 by omega]; simp
            clear hp
            go_wp2
            go_round
            case rel => exact ⟨k + 1, r' / 2, x / 2, by omega, by go_num, by omega, by show _ = _; rw [← HT.out, ← HR'.out, ← HX.out, HS.out], by go_num, by omega, HD, by go_num⟩
            case measure => simp [intOf]; omega
          · have HS := hide (tr_other hp)
            have hq : ((r' : Int) % 2 != (x : Int) % 2) = true := by rw [bne_iff_ne]; omega
            obtain ⟨y, hy, hyb, HY⟩ := xor_poly64 r' hrb'
            clear hp
            go_wp2
            go_round
            case rel => exact ⟨k + 1, y, x / 2, by omega, by go_num, hyb, by show _ = _; rw [← HT.out, ← HR'.out, ← HX.out, HS.out, HY.out], by go_num, by omega, HD, by go_num⟩
            case measure => simp [intOf]; omega
        · obtain rfl : k = 8 := by omega
          have HT := hide (reg_next (inv s) l j hlt)
          go_wp2
          go_round
          case rel => exact ⟨j + 1, r', by omega, by go_num, hrb', by show _ = _; rw [HR'.out, HR.out, HT.out], rfl⟩
          case measure => simp [intOf]; omega
    · obtain rfl : j = l.length := by omega
      have HL : Hid (crcOn s l = 4294967295 - r) := by
        show _ = _
        have e : r = reg (inv s) l := HR.out.trans (by rw [List.take_length])
        rw [crcOn, ← e, inv]
      go_wp2
      go_ret
      exact ⟨oret_int (by rw [HL.out]; omega), rfl⟩
theorem rSum_any (B : Nat) (A : Option Addr) (n c : Nat) (l : List UInt8) (w : World) (hr : Row w B A n c (cs8 l)) :
    Calls Try.prog 44 #[.slice A n c] w fun e w' => e = .returned (.int .u32 (crcOn 0 l : Int)) ∧ w = w' := by
  go_enter Try.func44, Try.ntmps44
  go_wp2_with (go_at_call 56; refine (rOn_any B 0 _ _ _ l _ hr (by omega)).mono ?_; rintro e w2 ⟨rfl, rfl⟩)
  go_ret
  exact ⟨rfl, rfl⟩
end Go.Proofs.Ytahnfkoakaimhaa
