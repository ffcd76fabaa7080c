/-
  Contract of Pad of the reference of layer 4.
-/
import Derived.Test.YthglpniemenhcaaDoorSPad
namespace Go.Proofs.YthglpniemenhcaaDoor
open Go.RowKit
set_option maxHeartbeats 800000

theorem rPad_bad (n : Int) (w : World) (h : n < 0 ∨ 1152921504606846976 < n) : Calls Tryd.prog 35 #[.int .i64 n] w (Gives w (pdL n) (pdE n)) := by
  have HL := hide (pdL_bad h)
  have HE := hide (pdE_bad h)
  by_cases h0 : n < 0
  · clear h
    go_enter Tryd.func35, Tryd.ntmps35
    go_wp2
    go_ret2
    exact Gives.none_ HL.out HE.out
  · have h1 : 1152921504606846976 < n := by omega
    have hd0 : decide (n < 0) = false := by simpa using h0
    clear h
    go_enter Tryd.func35, Tryd.ntmps35
    go_wp2
    go_ret2
    exact Gives.none_ HL.out HE.out
def padF (j : Nat) : List UInt8 := 128 :: List.replicate j 0
theorem padF_next (j : Nat) : cs8 (padF (j + 1)) = cs8 (padF j) ++ [.int .u8 0] := by
  unfold padF; rw [List.replicate_succ']; simp [cs8]
theorem padF_len (j : Nat) : (padF j).length = j + 1 := by simp [padF]
def padG (z v m : Nat) : List UInt8 := padF z ++ ((leB 8 v).drop m).reverse
theorem padG_next (z v m : Nat) (h : m < 8) : cs8 (padG z v m) = cs8 (padG z v (m + 1)) ++ [.int .u8 (((leB 8 v)[m]'(by rw [leB_len]; exact h)).toNat : Int)] := by
  unfold padG; rw [drop_step (leB 8 v) m (by rw [leB_len]; exact h), List.reverse_cons, ← List.append_assoc, cs8_snoc]
theorem padG_start (z v : Nat) : padG z v 8 = padF z := by unfold padG; rw [List.drop_of_length_le (by rw [leB_len]; omega)]; simp
theorem padG_end (n : Nat) : padG (padZ n) (8 * n) 0 = padL n := by unfold padG padF padL; simp
theorem padG_len (z v m : Nat) (h : m ≤ 8) : (padG z v m).length = z + 9 - m := by unfold padG; simp [padF_len, leB_len]; omega
theorem own_lt {w : World} {base g n c : Nat} {e : TypeId} {xs : List Value} (h : w.ownsRow base e 1 (.slice (some ⟨g, 0, none⟩) n c) n xs) : g < w.heap.size := by
  rcases h.2 with ⟨hv, _⟩ | ⟨g', cap, cur, hv, _, hg', _⟩
  · cases hv
  · obtain rfl : g = g' := by injection hv with h1; injection h1 with h1; injection h1
    exact (Array.getElem?_eq_some_iff.1 hg').1
theorem rPad_ok (n : Nat) (w : World) (h : n ≤ 1152921504606846976) : Calls Tryd.prog 35 #[.int .i64 (n : Int)] w (Gives w (pdL n) (pdE n)) := by
  obtain ⟨i0, hi, hz0, hz1, hz2⟩ := info_parts info8
  have HL := hide (pdL_ok n h)
  have HE := hide (pdE_ok n h)
  have hd0 : decide ((n : Int) < 0) = false := by simp
  have hd1 : decide ((1152921504606846976 : Int) < (n : Int)) = false := by simp; omega
  obtain ⟨r, hr, HR⟩ : ∃ r : Nat, (n : Int) % 64 = (r : Int) ∧ Hid (r = n % 64) := ⟨n % 64, by omega, rfl⟩
  have hr63 : r ≤ 63 := by omega
  obtain ⟨z, HZ⟩ : ∃ z, Hid (z = padZ n) := ⟨_, rfl⟩
  have hz63 : z ≤ 63 := by rw [HZ.out]; exact padZ_lt n
  have HT : Hid (∀ j, j ≤ z → ((r + (j + 1)) % 64 = 56 ↔ j = z)) := by
    intro j hj
    have h1 := HZ.out
    have h2 := HR.out
    unfold padZ at h1
    omega
  have hn8 : (n : Int) * 8 = ((8 * n : Nat) : Int) := by omega
  have hv : 8 * n ≤ 9223372036854775808 := by omega
  obtain ⟨v, HV⟩ : ∃ v, Hid (v = 8 * n) := ⟨_, rfl⟩
  rw [← HV.out] at hn8 hv
  go_enter Tryd.func35, Tryd.ntmps35
  go_wp2
  go_loopw [4] (fun s wr => ∃ (j g c : Nat), j ≤ z ∧ s = .slice (some ⟨g, 0, none⟩) (j + 1) c ∧ wr.ownsRow w.heap.size 5 1 (.slice (some ⟨g, 0, none⟩) (j + 1) c) (j + 1) (cs8 (padF j)) ∧ Below w.heap.size w wr) (fun s _ => z + 1 - (match s with | .slice _ k _ => k | _ => 0))
  case atStart => exact ⟨0, _, 1, Nat.zero_le _, rfl, World.ownsRow_lit (size := 1) w #[.int .u8 128] 1 (Nat.le_refl _) (by unfold maxLen; omega) rfl, (Below.refl _ _).alloc (Nat.le_refl _) _⟩
  case round =>
    obtain ⟨j, g, c, hj, rfl, ho, hb⟩ := hrel
    have hbs := hb.size
    obtain ⟨t, ht, Ht⟩ : ∃ t : Nat, ((r : Int) + ((j : Int) + 1)) % 64 = (t : Int) ∧ Hid (t = (r + (j + 1)) % 64) := ⟨(r + (j + 1)) % 64, by omega, rfl⟩
    by_cases hlt : j < z
    · have hne : ((t : Int) != 56) = true := by
        rw [bne_iff_ne]; intro h1
        have h2 := (HT.out j hj).1 (by have := Ht.out; omega)
        omega
      have HP := hide (padF_next j)
      go_wp2_with (at_builtin; refine wpList_append_at rfl (.tmp 23) (.tmp 24) 22 rfl w.heap.size 5 i0 _ 1 Tryd.underlying22 hi hz0 hz1 hz2 rfl _ _ _ rfl (ho.alloc _) _ _ _ _ rfl rfl (cell_one _ _ _) (one_u8 _) (by unfold maxLen; omega) (by omega) (by simp; omega) (by omega) ?_; intro g2 c2 w2 ho2 hg2 hat)
      go_roundw
      case rel => exact ⟨j + 1, g2, c2, by omega, rfl, by rw [HP.out]; exact ho2, ((Below.refl _ _).grown hg2 (by simp; omega) (fun k hk => (ho.lt k hk).1) |> fun q => (hb.alloc hbs _).trans q)⟩
      case measure => simp; omega
    · have hjz : j = z := by omega
      subst hjz
      have hne : ((t : Int) != 56) = false := by
        rw [bne_eq_false_iff_eq]
        have h2 := (HT.out j hj).2 rfl
        have := Ht.out; omega
      have hgs : g < wr.heap.size := own_lt ho
      generalize wr = w1 at *
      go_wp2
      clear hr ht hne hd0 hd1 hlt HT Ht HR
      go_loopw [5, 6, 7] (fun m s i wr => ∃ (k x : Nat) (A' : Option Addr) (c' : Nat), k ≤ 8 ∧ i = .int .i64 (k : Int) ∧ Hid (x = v / 256 ^ k) ∧ m = .int .u64 (x : Int) ∧ s = .slice A' k c' ∧ wr.ownsRow w1.heap.size 5 1 (.slice A' k c') k (cs8 (leB k v)) ∧ Below w1.heap.size w1 wr) (fun _ _ i _ => 8 - (intOf i).toNat)
      case atStart => exact ⟨0, v, _, _, Nat.zero_le _, rfl, by show v = v / 256 ^ 0; simp, rfl, rfl, World.ownsRow_nil _ _ _ _, Below.refl _ _⟩
      case round =>
        obtain ⟨k, x, A', c', hk, rfl, HX, rfl, rfl, ho2, hb2⟩ := hrel
        have hbs2 := hb2.size
        have hxb : x ≤ 9223372036854775808 := by rw [HX.out]; exact Nat.le_trans (Nat.div_le_self _ _) hv
        by_cases hlt2 : k < 8
        · have HD := hide (cs8_dig k v)
          have HN := hide (div_next v k)
          clear ho hb
          go_wp2_with (at_builtin; refine wpList_append_row rfl (.tmp 33) (.tmp 37) 22 rfl w1.heap.size 5 i0 _ 1 Tryd.underlying22 hi hz0 hz1 hz2 rfl _ _ _ rfl (ho2.alloc _) _ _ _ _ _ rfl (Row.one _ _ _) (one_u8 _) (by unfold maxLen; omega) (by omega) w1 (hb2.alloc (by omega) _) (Nat.le_refl _) ?_; intro A3 c3 w3 ho3 hb3 hg3)
          go_roundw
          case rel => exact ⟨k + 1, x / 256, A3, c3, by omega, by go_num, by show x / 256 = _; rw [HX.out, HN.out], by go_num, rfl, by rw [HD.out, ← HX.out]; exact ho3, hb3⟩
          case measure => simp [intOf]; omega
        · have hk8 : k = 8 := by omega
          have hdk : decide ((k : Int) < 8) = false := by simp; omega
          have ho' := own_keep ho hb2
          have hb' := hb.trans (hb2.mono hbs)
          rw [← padG_start j v] at ho'
          have HK8 := hide hk8
          rcases A' with _ | ⟨gl, ol, xl⟩
          · exact absurd (own_some ho2 (by omega)) (by rintro ⟨g, hg⟩; cases hg)
          · obtain ⟨g9, hg9⟩ := own_some ho2 (by omega)
            obtain ⟨rfl, rfl⟩ : ol = 0 ∧ xl = none := by injection hg9 with h1; injection h1 with _ h2 h3; exact ⟨h2, h3⟩
            clear hg9 g9
            have hll := (ho2.lt gl rfl).1
            have hlc := own_cap ho2
            have hne : g ≠ gl := by omega
            have ho3 := own_base (base' := w.heap.size) hbs ho2
            clear ho hb ho2 hb2 hk8
            go_wp2
            clear hdk hlt2
            go_loopw [4, 8] (fun s i wr => ∃ (m g' c2 : Nat), m ≤ 8 ∧ i = .int .i64 ((m : Int) - 1) ∧ s = .slice (some ⟨g', 0, none⟩) (j + 9 - m) c2 ∧ g' ≠ gl ∧ wr.ownsRow w.heap.size 5 1 (.slice (some ⟨g', 0, none⟩) (j + 9 - m) c2) (j + 9 - m) (cs8 (padG j v m)) ∧ wr.ownsRow w.heap.size 5 1 (.slice (some ⟨gl, 0, none⟩) k c') k (cs8 (leB k v)) ∧ Below w.heap.size w wr) (fun _ i _ => (intOf i + 1).toNat)
            case atStart => exact ⟨8, g, c, Nat.le_refl _, rfl, rfl, hne, ho', ho3, hb'⟩
            case round =>
              clear ho' ho3 hb' hne
              obtain ⟨m, g', c2, hm, hi', rfl, hne, ho, hol, hb⟩ := hrel
              have hbs' := hb.size
              rcases m with _ | m
              · obtain rfl : u8 = .int .i64 (-1) := by rw [hi']; rfl
                clear hi'
                have he : padG j v 0 = padL n := by rw [← padG_end n, ← HV.out, ← HZ.out]
                rw [he, ← HL.out] at ho
                go_wp2
                go_ret2
                exact Gives.of HE.out ho hb
              · obtain rfl : u8 = .int .i64 (m : Int) := by rw [hi']; go_num
                clear hi'
                have hmk : (m : Int) < (k : Int) := by have := HK8.out; omega
                have hcl := hol.cellAt m (by omega)
                rw [cs8_at (by rw [leB_len]; omega)] at hcl
                have HG := hide (padG_next j v m (by omega))
                have hlb : (leB k v)[m]'(by rw [leB_len]; omega) = (leB 8 v)[m]'(by rw [leB_len]; omega) := by have := HK8.out; subst this; rfl
                rw [hlb] at hcl
                have hgl9 := own_lt hol
                clear hlb
                go_wp2_with (at_builtin; refine wpList_append_at rfl (.tmp 45) (.tmp 50) 22 rfl w.heap.size 5 i0 _ 1 Tryd.underlying22 hi hz0 hz1 hz2 rfl _ _ _ rfl (ho.alloc _) _ _ _ _ rfl rfl (cell_one _ _ _) (one_u8 _) (by unfold maxLen; omega) (by omega) (by simp; omega) (by omega) ?_; intro g2 c3 w3 ho3 hg3 hat)
                go_roundw
                case rel =>
                  refine ⟨m, g2, c3, by omega, rfl, by rw [show j + 8 - m + 1 = j + 9 - m by omega], ?_, ?_, ?_, ?_⟩
                  · rcases hat with h1 | h1
                    · have h2 : g' = g2 := Option.some.inj (show some g' = some g2 from h1)
                      rw [← h2]; exact hne
                    · simp at h1; omega
                  · rw [HG.out, show j + 9 - m = j + 9 - (m + 1) + 1 by omega]; exact ho3
                  · refine World.ownsRow.kept (hol.alloc _) hg3 (.inr ?_)
                    intro h1; injection h1 with h1; exact hne h1.symm
                  · exact (hb.alloc hbs' _).trans ((Below.refl _ _).grown hg3 (by simp; omega) (fun k hk => (ho.lt k hk).1))
                case measure => simp [intOf]
theorem rPad_any (n : Int) (w : World) : Calls Tryd.prog 35 #[.int .i64 n] w (Gives w (pdL n) (pdE n)) := by
  by_cases h : n < 0 ∨ 1152921504606846976 < n
  · exact rPad_bad n w h
  · obtain ⟨k, rfl⟩ : ∃ k : Nat, n = (k : Int) := ⟨n.toNat, by omega⟩
    exact rPad_ok k w (by omega)
end Go.Proofs.YthglpniemenhcaaDoor
