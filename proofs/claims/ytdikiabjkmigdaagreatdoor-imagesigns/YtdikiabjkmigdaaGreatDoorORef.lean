/-
  Contracts of the reference of layer 2 (midstreamref02): digits, join, Put, Get, PutRun, GetRun.
-/
import Derived.Test.YtdikiabjkmigdaaGreatDoorOPkg3
import Derived.Deep.QuietTactic
import Derived.BigQuiet
namespace Go.Proofs.YtdikiabjkmigdaaGreatDoor
set_option maxRecDepth 20000
open Go.RowKit
set_option maxHeartbeats 400000

theorem own_base {w : World} {base base' : Nat} {e : TypeId} {v : Value} {n : Nat} {xs : List Value} (hb : base' ≤ base) (h : w.ownsRow base e 1 v n xs) : w.ownsRow base' e 1 v n xs := by
  refine ⟨h.1, ?_⟩
  rcases h.2 with h2 | ⟨g, cap, cur, hv, hg, r⟩
  · exact .inl h2
  · exact .inr ⟨g, cap, cur, hv, Nat.le_trans hb hg, r⟩
theorem Gives.none_at {w w' : World} {r : List UInt8} {er k : Int} (hr : r = []) (he : er = k) (hb : Below w.heap.size w w') : Gives w r er (.returned (.tuple #[.slice none 0 0, .int .i64 k])) w' := by
  subst hr; subst he
  exact ⟨none, 0, 0, rfl, World.ownsRow_nil _ _ _ _, hb⟩
theorem rem_byte (v j : Nat) : ((v / 256 ^ j : Nat) : Int) % 256 = ((byt (v / 256 ^ j)).toNat : Int) := by rw [byt_toNat]; omega
theorem cs8_dig (j v : Nat) : cs8 (leB (j + 1) v) = cs8 (leB j v) ++ [.int .u8 (((v / 256 ^ j : Nat) : Int) % 256)] := by rw [leB_succ, cs8_snoc, rem_byte]
theorem div_next (v j : Nat) : v / 256 ^ j / 256 = v / 256 ^ (j + 1) := by rw [Nat.div_div_eq_div_mul, Nat.pow_succ]
def DigPost (w : World) (k v : Nat) (e : Ending) (w' : World) : Prop :=
  ∃ (A : Option Addr) (n c x : Nat), e = .returned (.tuple #[.slice A n c, .int .u64 (x : Int)]) ∧ Hid (x = v / 256 ^ k) ∧ w'.ownsRow w.heap.size 5 1 (.slice A n c) n (cs8 (leB k v)) ∧ Below w.heap.size w w'
theorem digits_any (v k : Nat) (ki : Int) (hki : ki = k) (w : World) (hk : k ≤ 8) (hv : v ≤ 18446744073709551615) :
    Calls Tryz.prog 113 #[.int .u64 (v : Int), .int .i64 ki] w (DigPost w k v) := by
  subst hki
  obtain ⟨i0, hi, hz0, hz1, hz2⟩ := info_parts info8
  go_enter Tryz.func113, Tryz.ntmps113
  go_wp2
  go_loopw [0, 6, 7] (fun m s i wr => ∃ (j x : Nat) (A' : Option Addr) (c' : Nat), j ≤ k ∧ i = .int .i64 (j : Int) ∧ Hid (x = v / 256 ^ j) ∧ m = .int .u64 (x : Int) ∧ s = .slice A' j c' ∧ wr.ownsRow w.heap.size 5 1 (.slice A' j c') j (cs8 (leB j v)) ∧ Below w.heap.size w wr) (fun _ _ i _ => k - (intOf i).toNat)
  case atStart => exact ⟨0, v, _, _, Nat.zero_le _, rfl, by show v = v / 256 ^ 0; simp, rfl, rfl, World.ownsRow_nil _ _ _ _, Below.refl _ _⟩
  case round =>
    obtain ⟨j, x, A', c', hj, rfl, HX, rfl, rfl, ho, hb⟩ := hrel
    have hbs := hb.size
    have hxb : x ≤ 18446744073709551615 := by rw [HX.out]; exact Nat.le_trans (Nat.div_le_self _ _) hv
    by_cases hlt : j < k
    · have HE := hide (cs8_dig j v)
      have HD := hide (div_next v j)
      go_wp2_with (at_builtin; refine wpList_append_row rfl (.tmp 13) (.tmp 17) 29 rfl w.heap.size 5 i0 _ 1 Tryz.underlying29 hi hz0 hz1 hz2 rfl _ _ _ rfl (ho.alloc _) _ _ _ _ _ rfl (Row.one _ _ _) (one_u8 _) (by unfold maxLen; omega) (by omega) w (hb.alloc (by omega) _) (Nat.le_refl _) ?_; intro A2 c2 w2 ho2 hb2 hg2)
      go_roundw
      case rel => exact ⟨j + 1, x / 256, A2, c2, by omega, by go_num, by show x / 256 = _; rw [HX.out, HD.out], by go_num, rfl, by rw [HE.out, ← HX.out]; exact ho2, hb2⟩
      case measure => simp [intOf]; omega
    · obtain rfl : j = k := by omega
      go_wp2
      go_ret2
      exact ⟨A', j, c', x, rfl, HX, ho, hb⟩

theorem join_any (B : Nat) (A : Option Addr) (n c : Nat) (l : List UInt8) (A' : Option Addr) (n' c' : Nat) (x : List UInt8) (w : World) (hr : Row w B A n c (cs8 l)) (hx : Row w B A' n' c' (cs8 x)) (hB : B ≤ w.heap.size)
    (hl : n ≤ 1099511627776) (hl' : n' ≤ 1099511627776) :
    Calls Tryz.prog 97 #[.slice A n c, .slice A' n' c'] w (LayPost w.heap.size w (l ++ x)) := by
  obtain ⟨i0, hi, hz0, hz1, hz2⟩ := info_parts info8
  go_enter Tryz.func97, Tryz.ntmps97
  go_wp2_with (first
    | (at_builtin; refine wpList_append_row rfl (.tmp 6) (.tmp 7) 29 rfl w.heap.size 5 i0 _ 1 Tryz.underlying29 hi hz0 hz1 hz2 rfl _ 0 [] rfl (World.ownsRow_nil _ _ _ _) B _ _ _ _ rfl hr (cs8_one l) (by unfold maxLen; omega) (by omega) w (Below.refl _ _) (Nat.le_refl _) ?_; intro A2 c2 w2 ho2 hb2 hg2; simp only [Nat.zero_add, List.nil_append] at ho2)
    | (at_builtin; refine wpList_append_row rfl (.tmp 9) (.tmp 10) 29 rfl w.heap.size 5 i0 _ 1 Tryz.underlying29 hi hz0 hz1 hz2 rfl _ _ _ rfl ho2 B _ _ _ _ rfl (hx.keep hb2 hB) (cs8_one x) (by unfold maxLen; omega) (by omega) w hb2 (Nat.le_refl _) ?_; intro A3 c3 w3 ho3 hb3 hg3))
  go_ret
  exact ⟨A3, _, c3, rfl, by rw [cs8_app]; exact ho3, hb3⟩
theorem left_none {x v k : Nat} (h : x = v / 256 ^ k) (hf : v < 256 ^ k) : ((x : Int) != 0) = false := by
  rw [h, Nat.div_eq_of_lt hf]; rfl
theorem left_some {x v k : Nat} (h : x = v / 256 ^ k) (hf : ¬ v < 256 ^ k) : ((x : Int) != 0) = true := by
  have := Nat.div_pos (Nat.le_of_not_lt hf) (Nat.pow_pos (n := k) (show 0 < 256 by omega))
  rw [h, bne_iff_ne]; omega
theorem rPut_any (B : Nat) (A : Option Addr) (n c : Nat) (l : List UInt8) (width : Int) (v : Nat) (w : World) (hr : Row w B A n c (cs8 l)) (hB : B ≤ w.heap.size) (hl : n ≤ 1099511627776) (hv : v ≤ 18446744073709551615) :
    Calls Tryz.prog 89 #[.slice A n c, .int .i64 width, .int .u64 (v : Int)] w (Gives w (putL l width v) (putE width v)) := by
  by_cases hw : 1 ≤ width ∧ width ≤ 8
  · obtain ⟨k, rfl⟩ : ∃ k : Nat, width = (k : Int) := ⟨width.toNat, by omega⟩
    have hk1 : 1 ≤ k := by omega
    have hk8 : k ≤ 8 := by omega
    clear hw
    have d1 : decide ((k : Int) < 1) = false := by simp; omega
    have d2 : decide ((8 : Int) < (k : Int)) = false := by simp; omega
    have HP := hide (putE_nat (k := k) (v := v) ⟨hk1, hk8⟩)
    by_cases hf : v < 256 ^ k
    · have HE := hide (show putE (k : Int) v = 0 by rw [HP.out, if_pos hf])
      have HF := hide hf
      clear hf HP
      go_enter Tryz.func89, Tryz.ntmps89
      go_wp2_with (first
        | (go_at_call 113; refine (digits_any v k _ rfl _ hk8 hv).mono ?_; rintro e w1 ⟨A1, n1, c1, x, rfl, HX, ho1, hb1⟩; have hx0 := left_none HX.out HF.out)
        | (go_at_call 97; refine (join_any w1.heap.size _ _ _ l _ _ _ (leB k v) _ ((hr.keep hb1 hB).more (Nat.le_trans hB hb1.size)) (Row.of_own ho1) (Nat.le_refl _) hl (by have := own8_len ho1; rw [leB_len] at this; omega)).mono ?_; rintro e w2 ⟨A2, n2, c2, rfl, ho2, hb2⟩))
      go_ret2
      rw [putL_ok HE.out]
      exact Gives.of HE.out (own_base hb1.size ho2) (hb1.trans (hb2.mono hb1.size))
    · have HE := hide (show putE (k : Int) v = 3 by rw [HP.out, if_neg hf])
      have HF := hide hf
      clear hf HP
      go_enter Tryz.func89, Tryz.ntmps89
      go_wp2_with (go_at_call 113; refine (digits_any v k _ rfl _ hk8 hv).mono ?_; rintro e w1 ⟨A1, n1, c1, x, rfl, HX, ho1, hb1⟩; have hx0 := left_some HX.out HF.out)
      go_ret2
      exact Gives.none_at (putL_bad (by rw [HE.out]; decide)) HE.out hb1
  · have hwb := wid_false hw
    have HE := hide (putE_bad (v := v) hwb)
    clear hwb
    by_cases h1 : width < 1
    · have d1 : decide (width < 1) = true := by simpa using h1
      go_enter Tryz.func89, Tryz.ntmps89
      go_wp2
      go_ret2
      exact Gives.none_ (putL_bad (by rw [HE.out]; decide)) HE.out
    · have d1 : decide (width < 1) = false := by simpa using h1
      have d2 : decide (8 < width) = true := by simp; omega
      go_enter Tryz.func89, Tryz.ntmps89
      go_wp2
      go_ret2
      exact Gives.none_ (putL_bad (by rw [HE.out]; decide)) HE.out
end Go.Proofs.YtdikiabjkmigdaaGreatDoor
