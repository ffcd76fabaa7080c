/-
  Contracts of the reference of layer 10: zeros, with.
-/
import Derived.Test.YtmjelcoljmefeaaVHelp2
namespace Go.Proofs.Ytmjelcoljmefeaa
open Go.RowKit
set_option maxRecDepth 20000
set_option maxHeartbeats 2000000

theorem rep_len (n : Nat) : (List.replicate n (0 : Int)).length = n := by simp
theorem zeros_any (n : Nat) (w : World) (hn : n ≤ 1000) :
    Calls Try.prog 25 #[.int .i64 (n : Int)] w (Rowed (List.replicate n 0) w) := by
  obtain ⟨i0, hi, h1⟩ := Option.map_eq_some_iff.1 infoN
  simp at h1
  obtain ⟨hz0, hz1, hz2⟩ := h1
  have HI := hide (And.intro hi (And.intro hz0 (And.intro hz1 hz2)))
  clear hi hz0 hz1 hz2
  go_enter Try.func25, Try.ntmps25
  go_wp2
  go_loopw [3, 4] (fun o i wr => ∃ (j : Nat) (A' : Option Addr) (c' : Nat), j ≤ n ∧ i = .int .i64 (j : Int) ∧ o = .slice A' j c' ∧ Hid (wr.ownsRow w.heap.size 21 1 (.slice A' j c') j (c32 (List.replicate j 0)) ∧ Below w.heap.size w wr)) (fun _ i _ => n - (intOf i).toNat)
  case atStart => exact ⟨0, none, 0, Nat.zero_le _, rfl, rfl, World.ownsRow_nil _ _ _ _, Below.refl _ _⟩
  case round =>
    obtain ⟨j, A', c', hj, rfl, rfl, HO⟩ := hrel
    by_cases hlt : j < n
    · have d0 : decide ((j : Int) < (n : Int)) = true := by simpa using hlt
      have hs := HO.out.2.size
      have HS := hide (show c32 (List.replicate (j + 1) 0) = c32 (List.replicate j 0) ++ c32 [0] by rw [List.replicate_succ', c32_app])
      go_wp2_with (at_builtin; refine wpList_append_at rfl (.tmp 10) (.tmp 11) 25 rfl w.heap.size 21 i0 _ 4 Try.underlying25 HI.out.1 HI.out.2.1 HI.out.2.2.1 HI.out.2.2.2 rfl _ _ _ rfl (HO.out.1.alloc _) _ _ _ _ rfl rfl (cell_one _ _ _) (c32_one [0]) (by unfold maxLen; omega) (by omega) (by simp; omega) (by omega) ?_; intro q c3 w3 ho3 hg3 hat)
      have HB := hide ((HO.out.2.alloc hs _).grown hg3 (by simp; omega) fun i hi => (HO.out.1.lt i hi).1)
      clear hg3 hat
      replace ho3 := hide ho3
      go_roundw
      case rel => exact ⟨j + 1, _, c3, by omega, by go_num, rfl, by rw [HS.out]; exact ho3.out, HB.out⟩
      case measure => simp [intOf]; omega
    · have HJ := hide (show j = n by omega)
      have d0 : decide ((j : Int) < (n : Int)) = false := by simpa using hlt
      go_wp2
      go_ret
      refine ⟨A', c', ?_, ?_, HO.out.2⟩
      · rw [rep_len, HJ.out]; rfl
      · have := HO.out.1
        rw [HJ.out] at this
        rw [rep_len]
        exact this
theorem with_any (B : Nat) (A : Option Addr) (n c k : Nat) (v : Int) (l : List Int) (w : World) (hr : Row w B A n c (c32 l)) (hk : k < n) (hn : n ≤ 1000) :
    Calls Try.prog 40 #[.slice A n c, .int .i64 (k : Int), .int .i32 v] w (Rowed (l.set k v) w) := by
  obtain ⟨i0, hi, h1⟩ := Option.map_eq_some_iff.1 infoN
  simp at h1
  obtain ⟨hz0, hz1, hz2⟩ := h1
  have hln : l.length = n := by have := hr.len; rwa [c32_len] at this
  have HL := hide hln
  go_enter Try.func40, Try.ntmps40
  go_wp2_with (at_builtin; refine wpList_append_row rfl (.tmp 8) (.tmp 9) 25 rfl w.heap.size 21 i0 _ 4 Try.underlying25 hi hz0 hz1 hz2 rfl _ 0 [] rfl (World.ownsRow_nil _ _ _ _) B _ _ _ _ rfl hr (c32_one l) (by unfold maxLen; omega) (by omega) w (Below.refl _ _) (Nat.le_refl _) ?_; intro A2 c2 w2 ho2 hb2 hg2; simp only [Nat.zero_add, List.nil_append] at ho2; obtain ⟨q, rfl⟩ := own_some ho2 (by omega); have hcap := own_cap ho2; have ct := ho2.cellAt k (by omega); rw [c32_at (by omega)] at ct; have cf := ho2.frozenAt k)
  have hst := ho2.stored k (.int .i32 v)
  rw [c32_set] at hst
  have hq := (ho2.lt q rfl).1
  have HS := hide (And.intro hst.1 (below_set hb2 hq (j := k) (.int .i32 v)))
  clear ho2 hst ct cf hb2 hg2 hi hz0 hz1 hz2 hr
  go_wp2
  go_ret
  refine ⟨some ⟨q, 0, none⟩, c2, ?_, ?_, HS.out.2⟩
  · rw [List.length_set, HL.out]; simp
  · rw [List.length_set, HL.out]; exact HS.out.1
end Go.Proofs.Ytmjelcoljmefeaa
