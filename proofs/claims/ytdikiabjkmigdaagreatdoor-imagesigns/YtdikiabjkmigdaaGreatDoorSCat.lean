/-
  Contracts of Go's library: slices.Grow of nil, slices.Concat of two slices of bytes.
-/
import Derived.Test.YtdikiabjkmigdaaGreatDoorSMem
import Derived.Lib.AppendZeros
namespace Go.Proofs.YtdikiabjkmigdaaGreatDoor
set_option maxRecDepth 20000
open Go.RowKit
set_option maxHeartbeats 400000

def GrowPost (w : World) (e : Ending) (w' : World) : Prop :=
  ∃ A c, e = .returned (.slice A 0 c) ∧ w'.ownsRow w.heap.size 5 1 (.slice A 0 c) 0 [] ∧ Below w.heap.size w w'
theorem Grow_nil (k : Nat) (w : World) (h0 : 0 < k) (hk : k ≤ 2199023255552) :
    Calls Tryz.prog 53 #[.slice none 0 0, .int .i64 (k : Int)] w (GrowPost w) := by
  obtain ⟨i0, hi, hz0, hz1, hz2⟩ := info_parts info8
  have hkp : (0 : Int) < (k : Int) := by omega
  go_enter Tryz.func53, Tryz.ntmps53
  go_wp2_with (at_builtin; refine Lib.wpList_append_run _ rfl (.tmp 20) (.tmp 21) 29 3 rfl _ _ rfl rfl _ _ (Lib.run_append_nil_zeros w 29 3 _ 5 i0 _ .i64 _ Tryz.underlying29 Tryz.underlying3 hi hz0 k h0 (by omega) (by omega) (by rw [hz2]; omega)) ?_)
  go_ret
  refine ⟨_, _, rfl, own_drew ⟨rfl, .inr ⟨w.heap.size, _, _, rfl, Nat.le_refl _, heap_alloc_new w _, Nat.zero_le _, grownCap_le_maxLen _ _ _ _ (by unfold maxLen; omega), ?_, by simp⟩⟩, ((Below.refl _ _).alloc (Nat.le_refl _) _).drew⟩
  have := grownCap_ge w k 0 5
  simp [Builtin.zeroCells]
  omega
theorem Grow_int (k : Nat) (K : Int) (w : World) (hK : K = (k : Int)) (h0 : 0 < k) (hk : k ≤ 2199023255552) : Calls Tryz.prog 53 #[.slice none 0 0, .int .i64 K] w (GrowPost w) := by
  subst hK; exact Grow_nil k w h0 hk
theorem Concat_two (B : Nat) (G : Option Addr) (A1 A2 : Option Addr) (n1 n2 c1 c2 : Nat) (l1 l2 : List UInt8) (w : World) (hG : Row w B G 2 2 [.slice A1 n1 c1, .slice A2 n2 c2]) (h1 : Row w B A1 n1 c1 (cs8 l1)) (h2 : Row w B A2 n2 c2 (cs8 l2)) (hB : B ≤ w.heap.size)
    (hn1 : n1 ≤ 1099511627776) (hn2 : n2 ≤ 1099511627776) (hp : 0 < n1 + n2) :
    Calls Tryz.prog 28 #[.slice G 2 2] w (LayPost w.heap.size w (l1 ++ l2)) := by
  obtain ⟨i0, hi, hz0, hz1, hz2⟩ := info_parts info8
  obtain ⟨gb, go, rfl, hgB, hgc⟩ := hG.cells (by omega)
  have e0 := hgc 0 _ rfl
  have e1 := hgc 1 _ rfl
  rw [Nat.add_zero] at e0
  clear hgc
  go_enter Tryz.func28, Tryz.ntmps28
  go_wp2
  go_loop [3, 11] (fun s i => (i = .int .i64 0 ∧ s = .int .i64 0) ∨ (i = .int .i64 1 ∧ s = .int .i64 (n1 : Int)) ∨ (i = .int .i64 2 ∧ s = .int .i64 ((n1 + n2 : Nat) : Int))) (fun _ i => 2 - (intOf i).toNat)
  case atStart => exact .inl ⟨rfl, rfl⟩
  case round =>
    rcases hrel with ⟨rfl, rfl⟩ | ⟨rfl, rfl⟩ | ⟨rfl, rfl⟩
    · go_wp2
      go_round
      case rel => exact .inr (.inl ⟨by go_num, by go_num⟩)
      case measure => simp [intOf]
    · have hd : decide ((n1 : Int) + (n2 : Int) < 0) = false := by simp; omega
      go_wp2
      go_round
      case rel => exact .inr (.inr ⟨by go_num, by go_num⟩)
      case measure => simp [intOf]
    · go_wp2_with fail
      refine (Grow_int (n1 + n2) _ w (by omega) hp (by omega)).mono ?_
      rintro e w1 ⟨A3, c3, rfl, ho3, hb3⟩
      go_wp2
      go_loopw [6, 27] (fun s i wr => Below w.heap.size w wr ∧ ((i = .int .i64 0 ∧ ∃ A c, s = .slice A 0 c ∧ wr.ownsRow w.heap.size 5 1 (.slice A 0 c) 0 []) ∨ (i = .int .i64 1 ∧ ∃ A c, s = .slice A n1 c ∧ wr.ownsRow w.heap.size 5 1 (.slice A n1 c) n1 (cs8 l1)) ∨ (i = .int .i64 2 ∧ ∃ A c, s = .slice A (n1 + n2) c ∧ wr.ownsRow w.heap.size 5 1 (.slice A (n1 + n2) c) (n1 + n2) (cs8 (l1 ++ l2))))) (fun _ i _ => 2 - (intOf i).toNat)
      case atStart => exact ⟨hb3, .inl ⟨rfl, _, _, rfl, ho3⟩⟩
      case round =>
        clear ho3 hb3
        obtain ⟨hb, hrel⟩ := hrel
        have f0 := (hb.cell (p := ⟨gb, go, none⟩) (show gb < w.heap.size by omega)).trans e0
        have f1 := (hb.cell (p := ⟨gb, go + 1, none⟩) (show gb < w.heap.size by omega)).trans e1
        rcases hrel with ⟨rfl, A, c, rfl, ho⟩ | ⟨rfl, A, c, rfl, ho⟩ | ⟨rfl, A, c, rfl, ho⟩
        · go_wp2_with (at_builtin; refine wpList_append_row rfl (.tmp 31) (.tmp 32) 29 rfl w.heap.size 5 i0 _ 1 Tryz.underlying29 hi hz0 hz1 hz2 rfl _ _ _ rfl ho B _ _ _ _ rfl (h1.keep hb hB) (cs8_one _) (by unfold maxLen; omega) (by omega) w hb (Nat.le_refl _) ?_; intro A4 c4 w4 ho4 hb4 hg4; simp only [Nat.zero_add, List.nil_append] at ho4)
          go_roundw
          case rel => exact ⟨hb4, .inr (.inl ⟨by go_num, A4, c4, rfl, ho4⟩)⟩
          case measure => simp [intOf]
        · go_wp2_with (at_builtin; refine wpList_append_row rfl (.tmp 31) (.tmp 32) 29 rfl w.heap.size 5 i0 _ 1 Tryz.underlying29 hi hz0 hz1 hz2 rfl _ _ _ rfl ho B _ _ _ _ rfl (h2.keep hb hB) (cs8_one _) (by unfold maxLen; omega) (by omega) w hb (Nat.le_refl _) ?_; intro A4 c4 w4 ho4 hb4 hg4)
          go_roundw
          case rel => exact ⟨hb4, .inr (.inr ⟨by go_num, A4, c4, rfl, by rw [cs8_app]; exact ho4⟩)⟩
          case measure => simp [intOf]
        · go_wp2
          go_ret
          exact ⟨A, _, c, rfl, ho, hb⟩
end Go.Proofs.YtdikiabjkmigdaaGreatDoor
