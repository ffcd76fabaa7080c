/-
  Contracts of the laws' helpers: rows (a flash of two sectors), Count.
-/
import Derived.Test.YtimajdhfgkpndaaFAlike
import Derived.Test.YtimajdhfgkpndaaFNil
namespace Go.Proofs.Ytimajdhfgkpndaa
open Go.RowKit
set_option maxHeartbeats 400000

def rowW (l : List UInt32) (i : Nat) : UInt32 := if 0 < l.length then l.getD (i % l.length) 0 else word (i * 2654435761)
def rowsL (l : List UInt32) (k : Nat) : List UInt32 := (List.range k).map (rowW l)
theorem rowsL_len (l : List UInt32) (k : Nat) : (rowsL l k).length = k := by simp [rowsL]
theorem rowsL_succ (l : List UInt32) (k : Nat) : rowsL l (k + 1) = rowsL l k ++ [rowW l k] := by simp [rowsL, List.range_succ]
theorem mul_w (j : Nat) : IntKind.u32.wrap ((j : Int) * 2654435761) = ((word (j * 2654435761)).toNat : Int) := by
  rw [word_toNat]; simp only [IntKind.wrap, IntKind.bits, IntKind.signed]; simp
theorem rows_any (A : Option Addr) (n c : Nat) (l : List UInt32) (w : World) (hr : Row w w.heap.size A n c (cs32 l)) :
    Calls Try.prog 26 #[.slice A n c] w (Makes w (ofS (rowsL l 512))) := by
  obtain ⟨i0, hi, hz0, hz1, hz2⟩ := info_parts info32
  have hln := hr.len
  rw [cs32_len] at hln
  have hm := hr.max
  have hcap := hr.cap
  unfold maxLen at hm
  have HL512 := hide (rowsL_len l 512)
  go_enter Try.func26, Try.ntmps26
  go_wp2
  go_loopw [3, 4] (fun s i wr => ∃ (j : Nat) (A' : Option Addr) (c' : Nat), j ≤ 512 ∧ i = .int .i64 (j : Int) ∧ s = .slice A' j c' ∧ wr.ownsRow w.heap.size 28 1 (.slice A' j c') j (cs32 (rowsL l j)) ∧ Below w.heap.size w wr) (fun _ i _ => 512 - (intOf i).toNat)
  case atStart => exact ⟨0, _, _, by omega, rfl, rfl, World.ownsRow_nil _ _ _ _, Below.refl _ _⟩
  case round =>
    obtain ⟨j, A', c', hj, rfl, rfl, ho, hb⟩ := hrel
    have hbs := hb.size
    by_cases hlt : j < 512
    · have dj : decide ((j : Int) < 512) = true := by simp; omega
      have HE := hide (show cs32 (rowsL l (j + 1)) = cs32 (rowsL l j) ++ [.int .u32 ((rowW l j).toNat : Int)] by rw [rowsL_succ, cs32_snoc])
      have hmw := mul_w j
      have HLT := hide hlt
      have HJ := hide hj
      by_cases h0 : 0 < n
      · have hmod : j % n < l.length := by rw [hln]; exact Nat.mod_lt _ h0
        have HR := hide (show (rowW l j) = l[j % n] by unfold rowW; rw [if_pos (by omega), hln, List.getD_eq_getElem?_getD, List.getElem?_eq_getElem hmod]; rfl)
        obtain ⟨q, hq⟩ : ∃ q, q = j % n := ⟨_, rfl⟩
        have hqn : q < n := by rw [hq]; exact Nat.mod_lt _ h0
        have hqi : (j : Int) % (n : Int) = (q : Int) := by rw [hq]; exact (Int.natCast_emod j n).symm
        obtain ⟨b, o, u, rfl, _, hu, hcell⟩ := (hr.keep hb (Nat.le_refl _)).get hqn
        have hql : q < l.length := by omega
        have HQ := hide (show rowW l j = l[q] by rw [HR.out]; simp only [hq])
        rw [cs32_at hql] at hu
        obtain rfl := Option.some.inj hu
        have d0 : decide ((0 : Int) < (n : Int)) = true := by simp; omega
        clear hu hlt hq HR hmod
        go_wp2_with (at_builtin; refine wpList_append_row rfl (.tmp 23) (.tmp 25) 40 rfl w.heap.size 28 i0 _ 4 Try.underlying40 hi hz0 hz1 hz2 rfl _ _ _ rfl (ho.alloc _) _ _ _ _ _ rfl (Row.one _ _ _) (one_u32 _) (by have := HJ.out; unfold maxLen; omega) (by have := HJ.out; omega) w (hb.alloc (by omega) _) (Nat.le_refl _) ?_; intro A2 c2 w2 ho2 hb2 hg2)
        have hlt := HLT.out
        go_roundw
        case rel => exact ⟨j + 1, A2, c2, by omega, by go_num, rfl, by rw [HE.out, HQ.out]; exact ho2, hb2⟩
        case measure => simp [intOf]; omega
      · have HQ := hide (show rowW l j = word (j * 2654435761) by unfold rowW; rw [if_neg (by omega)])
        have d0 : decide ((0 : Int) < (n : Int)) = false := by simp; omega
        clear hlt
        go_wp2_with (at_builtin; refine wpList_append_row rfl (.tmp 23) (.tmp 25) 40 rfl w.heap.size 28 i0 _ 4 Try.underlying40 hi hz0 hz1 hz2 rfl _ _ _ rfl (ho.alloc _) _ _ _ _ _ rfl (Row.one _ _ _) (one_u32 _) (by have := HJ.out; unfold maxLen; omega) (by have := HJ.out; omega) w (hb.alloc (by omega) _) (Nat.le_refl _) ?_; intro A2 c2 w2 ho2 hb2 hg2)
        have hlt := HLT.out
        go_roundw
        case rel => exact ⟨j + 1, A2, c2, by omega, by go_num, rfl, by rw [HE.out, HQ.out]; exact ho2, hb2⟩
        case measure => simp [intOf]; omega
    · have hj5 : j = 512 := by omega
      have dj : decide ((j : Int) < 512) = false := by simp; omega
      have q := Row.of_own ho
      rw [hj5] at q
      clear hlt hj
      go_wp2_with (go_at_call 24; rw [show (Value.slice A' j c') = .slice A' 512 c' by rw [hj5]]; refine (Of_any wr.heap.size _ _ _ (rowsL l 512) _ q (Nat.le_refl _) (by omega)).mono ?_; rintro e w2 ⟨g, h, rfl, f2, k2, hg, hh⟩)
      go_ret
      exact ⟨g, h, rfl, f2, (Keeps.of_below hb).trans k2 (by simp), by omega, by omega⟩
theorem count_lo {a m : Int} (hm : 0 < m) (h : a.tmod m < 0) : a % m = a.tmod m + m := by
  have h1 := Int.tmod_eq_emod (a := a) (b := m)
  have h2 := Int.emod_nonneg a (show m ≠ 0 by omega)
  have h3 := Int.emod_lt_of_pos a hm
  have h4 : (m.natAbs : Int) = m := by omega
  split at h1 <;> omega
theorem count_hi {a m : Int} (hm : 0 < m) (h : ¬ a.tmod m < 0) : a % m = a.tmod m := by
  have h1 := Int.tmod_eq_emod (a := a) (b := m)
  have h2 := Int.emod_nonneg a (show m ≠ 0 by omega)
  have h3 := Int.emod_lt_of_pos a hm
  have h4 : (m.natAbs : Int) = m := by omega
  split at h1 <;> omega
def cntN (a : Int) (m : Nat) : Nat := (a % (m : Int)).toNat
theorem cntN_lt (a : Int) {m : Nat} (hm : 0 < m) : cntN a m < m := by
  unfold cntN
  have := Int.emod_lt_of_pos a (show (0 : Int) < m by omega)
  have := Int.emod_nonneg a (show (m : Int) ≠ 0 by omega)
  omega
theorem Count_any (a : Int) (n : Nat) (w : World) (hm : 0 < n) (hm2 : n ≤ 512) :
    Calls Try.prog 27 #[.int .i64 a, .int .i64 (n : Int)] w fun e w' => e = .returned (.int .i64 (cntN a n : Int)) ∧ w = w' := by
  obtain ⟨m, hmn⟩ : ∃ m : Int, m = n := ⟨_, rfl⟩
  rw [← hmn]
  have hm3 : 0 < m := by omega
  have hm4 : m ≤ 512 := by omega
  have HC := hide (show cntN a n = (a % m).toNat by rw [hmn]; rfl)
  clear hmn
  have hlo := Int.emod_nonneg a (show m ≠ 0 by omega)
  have hhi := Int.emod_lt_of_pos a hm3
  by_cases h : a.tmod m < 0
  · have he := count_lo hm3 h
    have hw : wrap64 (a.tmod m + m) = a % m := by rw [← he]; unfold wrap64; omega
    clear he
    go_enter Try.func27, Try.ntmps27
    go_wp2
    go_ret
    exact ⟨ret_int (by rw [HC.out]; omega), rfl⟩
  · have HE := hide (count_hi hm3 h)
    have hd : decide (a.tmod m < 0) = false := by simpa using h
    go_enter Try.func27, Try.ntmps27
    go_wp2
    go_ret
    exact ⟨ret_int (by rw [HC.out]; have := HE.out; omega), rfl⟩
theorem Count_512 (a : Int) (w : World) : Calls Try.prog 27 #[.int .i64 a, .int .i64 512] w fun e w' => e = .returned (.int .i64 (cntN a 512 : Int)) ∧ w = w' := Count_any a 512 w (by omega) (by omega)
theorem Count_2 (a : Int) (w : World) : Calls Try.prog 27 #[.int .i64 a, .int .i64 2] w fun e w' => e = .returned (.int .i64 (cntN a 2 : Int)) ∧ w = w' := Count_any a 2 w (by omega) (by omega)
end Go.Proofs.Ytimajdhfgkpndaa
