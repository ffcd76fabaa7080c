/-
  The laws' own helpers: fitted, touches; the reference's Ints.
-/
import Derived.Test.YtmjelcoljmefeaaVHelp
namespace Go.Proofs.Ytmjelcoljmefeaa
open Go.RowKit
set_option maxRecDepth 20000
set_option maxHeartbeats 2000000

/-- Values, as many as there must be. -/
def fitV (l : List Int) (k : Nat) : List Int := (List.range k).map fun i => if i < l.length then gd l i else 7 * (i : Int)
theorem fitV_len (l : List Int) (k : Nat) : (fitV l k).length = k := by simp [fitV]
theorem fitV_succ (l : List Int) (k : Nat) : fitV l (k + 1) = fitV l k ++ [if k < l.length then gd l k else 7 * (k : Int)] := by simp [fitV, List.range_succ]
theorem fitV_self (l : List Int) : fitV l l.length = l := by
  apply List.ext_getElem
  · simp [fitV]
  · intro i h1 h2
    simp [fitV, h2, gd_lt h2]
theorem fitV_rng {l : List Int} (h : rngL l) (k : Nat) (hk : k ≤ 100) : rngL (fitV l k) := by
  intro v hv
  obtain ⟨i, hi, rfl⟩ := List.mem_map.1 hv
  have := List.mem_range.1 hi
  split
  · exact rng_gd h _
  · unfold rng; omega
def Rowed (l : List Int) (w : World) (e : Ending) (w' : World) : Prop :=
  ∃ A c, e = .returned (.slice A l.length c) ∧ w'.ownsRow w.heap.size 21 1 (.slice A l.length c) l.length (c32 l) ∧ Below w.heap.size w w'
theorem fitted_any (B : Nat) (A : Option Addr) (n c k : Nat) (l : List Int) (w : World) (hr : Row w B A n c (c32 l)) (hB : B ≤ w.heap.size) (hk : k ≤ 100) :
    Calls Try.prog 11 #[.slice A n c, .int .i64 (k : Int)] w (Rowed (fitV l k) w) := by
  obtain ⟨i0, hi, h1⟩ := Option.map_eq_some_iff.1 infoN
  simp at h1
  obtain ⟨hz0, hz1, hz2⟩ := h1
  have HI := hide (And.intro hi (And.intro hz0 (And.intro hz1 hz2)))
  have hln : l.length = n := by have := hr.len; rwa [c32_len] at this
  have HL := hide hln
  have HR := hide hr
  have hcap := hr.cap
  clear hi hz0 hz1 hz2 hln hr
  go_enter Try.func11, Try.ntmps11
  go_wp2
  go_loopw [5, 6] (fun o i wr => ∃ (j : Nat) (A' : Option Addr) (c' : Nat), j ≤ k ∧ i = .int .i64 (j : Int) ∧ o = .slice A' j c' ∧ Hid (wr.ownsRow w.heap.size 21 1 (.slice A' j c') j (c32 (fitV l j)) ∧ Below w.heap.size w wr)) (fun _ i _ => k - (intOf i).toNat)
  case atStart => exact ⟨0, none, 0, Nat.zero_le _, rfl, rfl, World.ownsRow_nil _ _ _ _, Below.refl _ _⟩
  case round =>
    obtain ⟨j, A', c', hj, rfl, rfl, HO⟩ := hrel
    by_cases hlt : j < k
    · have d1 : decide ((j : Int) < 100) = true := by simpa using (by omega : (j : Int) < 100)
      have d0 : decide ((j : Int) < (k : Int)) = true := by simpa using hlt
      have hs := HO.out.2.size
      by_cases hn : j < n
      · obtain ⟨b, o, u, rfl, hbb, hu, hc⟩ := (HR.out.keep HO.out.2 hB).get hn
        rw [c32_at (by have := HL.out; omega)] at hu
        obtain rfl := Option.some.inj hu
        clear hu
        have HS := hide (fitV_succ l j)
        rw [if_pos (by have := HL.out; omega)] at HS
        obtain ⟨v, hv⟩ : ∃ v, gd l j = v := ⟨_, rfl⟩
        rw [hv] at hc HS
        clear hv
        go_wp2_with (at_builtin; refine wpList_append_at rfl (.tmp 28) (.tmp 30) 25 rfl w.heap.size 21 i0 _ 4 Try.underlying25 HI.out.1 HI.out.2.1 HI.out.2.2.1 HI.out.2.2.2 rfl _ _ _ rfl (HO.out.1.alloc _) _ _ _ _ rfl rfl (cell_one _ _ _) (c32_one [v]) (by unfold maxLen; omega) (by omega) (by simp; omega) (by omega) ?_; intro q c3 w3 ho3 hg3 hat)
        have HB := hide ((HO.out.2.alloc hs _).grown hg3 (by simp; omega) fun i hi => (HO.out.1.lt i hi).1)
        clear hg3 hat
        replace ho3 := hide ho3
        go_roundw
        case rel => exact ⟨j + 1, _, c3, by omega, by go_num, rfl, by rw [HS.out, c32_app]; exact ho3.out, HB.out⟩
        case measure => simp [intOf]; omega
      · have HS := hide (fitV_succ l j)
        rw [if_neg (by have := HL.out; omega)] at HS
        have d2 : decide ((j : Int) < (n : Int)) = false := by simpa using (by omega : ¬ (j : Int) < (n : Int))
        go_wp2_with (at_builtin; refine wpList_append_at rfl (.tmp 28) (.tmp 30) 25 rfl w.heap.size 21 i0 _ 4 Try.underlying25 HI.out.1 HI.out.2.1 HI.out.2.2.1 HI.out.2.2.2 rfl _ _ _ rfl (HO.out.1.alloc _) _ _ _ _ rfl rfl (cell_one _ _ _) (c32_one [7 * (j : Int)]) (by unfold maxLen; omega) (by omega) (by simp; omega) (by omega) ?_; intro q c3 w3 ho3 hg3 hat)
        have HB := hide ((HO.out.2.alloc hs _).grown hg3 (by simp; omega) fun i hi => (HO.out.1.lt i hi).1)
        clear hg3 hat
        replace ho3 := hide ho3
        go_roundw
        case rel => exact ⟨j + 1, _, c3, by omega, by go_num, rfl, by rw [HS.out, c32_app]; exact ho3.out, HB.out⟩
        case measure => simp [intOf]; omega
    · have HJ := hide (show j = k by omega)
      have d0 : decide ((j : Int) < (k : Int)) = false := by simpa using hlt
      go_wp2
      go_ret
      refine ⟨A', c', ?_, ?_, HO.out.2⟩
      · rw [fitV_len, HJ.out]; rfl
      · have := HO.out.1
        rw [HJ.out] at this
        rw [fitV_len]
        exact this

/-- Whether some instruction is that one. -/
def touchB (l : List (Int × Int)) (op : Int) (k : Nat) : Bool := l.any fun i => i.1 == op && i.2 == (k : Int)
theorem touch_none {l : List (Int × Int)} {op : Int} {k : Nat} : touchB l op k = false ↔ ∀ i ∈ l, ¬ (i.1 = op ∧ i.2 = (k : Int)) := by
  unfold touchB
  simp [List.any_eq_false]
theorem touches_any (B : Nat) (A : Option Addr) (n c k : Nat) (op : Int) (l : List (Int × Int)) (w : World) (hr : RowI w B A n c l) (hk : k ≤ 1000) :
    Calls Try.prog 18 #[.slice A n c, .int .i64 op, .int .i64 (k : Int)] w fun e w' => e = .returned (.bool (touchB l op k)) ∧ w = w' := by
  have HR := hide hr
  have hcap := hr.cap
  have hmax := hr.max
  unfold maxLen at hmax
  clear hr
  go_enter Try.func18, Try.ntmps18
  go_wp2
  go_loop [7] (fun i => ∃ j : Nat, j ≤ n ∧ i = .int .i64 (j : Int) ∧ Hid (∀ q, q < j → ∀ i, l[q]? = some i → ¬ (i.1 = op ∧ i.2 = (k : Int)))) (fun i => n - (intOf i).toNat)
  case atStart => exact ⟨0, Nat.zero_le _, rfl, fun q hq => by omega⟩
  case round =>
    obtain ⟨j, hj, rfl, HN⟩ := hrel
    by_cases hlt : j < n
    · obtain ⟨b, o, y, x, rfl, _, hu, hc0, hc1, hx⟩ := HR.out.get hlt
      have HU := hide hu
      clear hu
      by_cases h1 : y = op
      · have e1 : (y == op) = true := by simpa using h1
        by_cases h2 : x = (k : Int)
        · have e2 : (x == (k : Int)) = true := by simpa using h2
          have HT := hide (show touchB l op k = true by
            unfold touchB
            rw [List.any_eq_true]
            exact ⟨(y, x), List.mem_of_getElem? HU.out, by simp [h1, h2]⟩)
          clear h1 h2
          go_wp2
          go_ret
          exact ⟨by rw [HT.out]; rfl, rfl⟩
        · have e2 : (x == (k : Int)) = false := by simpa using h2
          have HT := hide (show ∀ q, q < j + 1 → ∀ i, l[q]? = some i → ¬ (i.1 = op ∧ i.2 = (k : Int)) from fun q hq i hi => by
            by_cases e : q = j
            · subst e
              rw [HU.out] at hi
              obtain rfl := Option.some.inj hi
              exact fun h => h2 h.2
            · exact HN.out q (by omega) i hi)
          clear h1 h2
          go_wp2
          go_round
          case rel => exact ⟨j + 1, by omega, by go_num, HT⟩
          case measure => simp [intOf]; omega
      · have e1 : (y == op) = false := by simpa using h1
        have HT := hide (show ∀ q, q < j + 1 → ∀ i, l[q]? = some i → ¬ (i.1 = op ∧ i.2 = (k : Int)) from fun q hq i hi => by
          by_cases e : q = j
          · subst e
            rw [HU.out] at hi
            obtain rfl := Option.some.inj hi
            exact fun h => h1 h.1
          · exact HN.out q (by omega) i hi)
        clear h1
        go_wp2
        go_round
        case rel => exact ⟨j + 1, by omega, by go_num, HT⟩
        case measure => simp [intOf]; omega
    · obtain rfl : n = j := by omega
      have HT := hide (show touchB l op k = false from touch_none.2 fun i hi => by
        obtain ⟨q, hq, rfl⟩ := List.mem_iff_getElem.1 hi
        exact HN.out q (by have := HR.out.len; omega) _ (List.getElem?_eq_getElem hq))
      go_wp2
      go_ret
      exact ⟨by rw [HT.out]; rfl, rfl⟩
theorem Ints_same (B B' : Nat) (A A' : Option Addr) (n c n' c' : Nat) (l : List Int) (w : World) (hr : Row w B A n c (c32 l)) (hr' : Row w B' A' n' c' (c32 l)) :
    Calls Try.prog 14 #[.slice A n c, .slice A' n' c'] w (Drew true w) := by
  obtain rfl : n' = n := by have h1 := hr.len; have h2 := hr'.len; omega
  have hn := hr.len
  rw [c32_len] at hn
  subst hn
  have hm := hr.max
  have hcap := hr.cap
  unfold maxLen at hm
  go_enter Try.func14, Try.ntmps14
  go_wp2
  go_loopw [5] (fun i wr => ∃ j k : Nat, j ≤ l.length ∧ i = .int .i64 (j : Int) ∧ wr = w.drewN k) (fun i _ => l.length - (intOf i).toNat)
  case atStart => exact ⟨0, 0, Nat.zero_le _, rfl, rfl⟩
  case round =>
    obtain ⟨j, k, hj, rfl, rfl⟩ := hrel
    by_cases hlt : j < l.length
    · obtain ⟨b, o, u, rfl, _, hu, hc⟩ := hr.get hlt
      obtain ⟨b', o', u', rfl, _, hu', hc'⟩ := hr'.get hlt
      rw [c32_at hlt] at hu hu'
      obtain rfl := Option.some.inj hu
      obtain rfl := Option.some.inj hu'
      have hi1 : (j : Int) < (l.length : Int) := by omega
      clear hu hu' hr hr'
      go_wp2
      go_quiet (fail)
      go_wp2
      go_roundw
      case rel => exact ⟨j + 1, k + nq, by omega, by go_num, by first | rfl | exact World.drewN_drewN⟩
      case measure => simp [intOf]; omega
    · obtain rfl : j = l.length := by omega
      go_wp2
      go_ret
      exact ⟨k, rfl, rfl⟩
end Go.Proofs.Ytmjelcoljmefeaa
