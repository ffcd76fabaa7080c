/-
  Contract of the reference's Spoil of layer 2, of a part of a block: what lies ahead of the part stays.
-/
import Derived.Test.YtfbboiagfjkgcaaDoorSMem
import Derived.ArgAppend
namespace Go.Proofs.YtfbboiagfjkgcaaDoor
open Go.RowKit
set_option maxHeartbeats 800000

def Ints8 (m : Nat) (cs : List Value) : Prop := ∀ j, j < m → ∃ z : Int, cs[j]? = some (.int .u8 z)
theorem Ints8.set {m : Nat} {cs : List Value} (h : Ints8 m cs) (j : Nat) (hj : j < m) (z : Int) : Ints8 m (cs.set j (.int .u8 z)) := fun k hk => by
  rw [List.getElem?_set]
  split
  · rename_i e; subst e
    obtain ⟨y, hy⟩ := h j hj
    rw [if_pos (List.getElem?_eq_some_iff.1 hy).1]; exact ⟨z, rfl⟩
  · exact h k hk
/-- Outside the part the cells are as they were. -/
def Outer (o cap : Nat) (cs xs : List Value) : Prop := ∀ k, k < o ∨ o + cap ≤ k → xs[k]? = cs[k]?
theorem Outer.set {o cap : Nat} {cs xs : List Value} (h : Outer o cap cs xs) (j : Nat) (hj : j < cap) (v : Value) : Outer o cap cs (xs.set (o + j) v) := fun k hk => by
  rw [List.getElem?_set, if_neg (by omega)]; exact h k hk
theorem grown_set (w : World) (g j : Nat) (v : Value) : w.grownBy (w.setCell ⟨g, j, none⟩ v) (some g) :=
  ⟨rfl, rfl, rfl, by simp, fun k _ hne => Below.heap_setCell _ _ _ _ (fun e => hne (by rw [e]))⟩
theorem Blk.grown {w w' : World} {g : Nat} {t : TypeId} {cs : List Value} (hb : Blk w g t cs) (hg : w.grownBy w' none) : Blk w' g t cs := (hg.block g hb.lt (by simp)).trans hb
def SpoilPost (w : World) (g o cap : Nat) (cs : List Value) (e : Ending) (w' : World) : Prop :=
  e = .returned (.tuple #[]) ∧ (∃ cs', Blk w' g 5 cs' ∧ Outer o cap cs cs') ∧ w.grownBy w' (some g)
theorem Spoil_at (g o m cap : Nat) (cs : List Value) (w : World) (hk : Blk w g 5 cs) (hu : Ints8 (o + m) cs) (hm : m ≤ cap) (hcap : o + cap ≤ cs.length) (hmb : m ≤ 16384) :
    Calls Tryd.prog 18 #[.slice (some ⟨g, o, none⟩) m cap] w (SpoilPost w g o cap cs) := by
  obtain ⟨i0, hi, hz0, hz1, hz2⟩ := info_parts info8
  go_enter Tryd.func18, Tryd.ntmps18
  go_wp2
  go_loopw [2] (fun i wr => ∃ (j : Nat) (xs : List Value), j ≤ m ∧ i = .int .i64 (j : Int) ∧ Hid (xs.length = cs.length) ∧ Hid (Outer o cap cs xs) ∧ Ints8 (o + m) xs ∧ Blk wr g 5 xs ∧ w.grownBy wr (some g)) (fun i _ => m - (intOf i).toNat)
  case atStart => exact ⟨0, cs, Nat.zero_le _, rfl, rfl, fun _ _ => rfl, hu, hk, World.grownBy.refl _ _⟩
  case round =>
    clear hk hu
    obtain ⟨j, xs, hj, rfl, HL, HT, hu, hk, hg⟩ := hrel
    by_cases hlt : j < m
    · obtain ⟨z, hz⟩ := hu (o + j) (by omega)
      have hc := hk.cell hz
      have hfz := hk.frozen (o + j)
      have HK := hide (hk.set (o + j) (.int .u8 (bits .xor .u8 z 90)))
      have HU := hide (hu.set (o + j) (by omega) (bits .xor .u8 z 90))
      have HG := hide (grown_trans hg (grown_set wr g (o + j) (.int .u8 (bits .xor .u8 z 90))))
      have HT2 := hide (HT.out.set j (by omega) (.int .u8 (bits .xor .u8 z 90)))
      clear hk hu hg hz
      go_wp2
      go_roundw
      case rel => exact ⟨j + 1, _, by omega, by go_num, by show _ = _; rw [List.length_set]; exact HL.out, HT2, HU, HK, HG⟩
      case measure => simp [intOf]; omega
    · obtain rfl : j = m := by omega
      have hall : ∀ k u, ((xs.drop o).take j)[k]? = some u → wr.cell? ⟨g, o + k, none⟩ = some u := fun k u hk2 => by
        rw [List.getElem?_take] at hk2
        split at hk2
        · rw [List.getElem?_drop] at hk2; exact hk.cell hk2
        · cases hk2
      have hgl := hk.lt
      have hHL := HL.out
      go_wp2_with (at_builtin; refine wpList_append_arg _ rfl (.tmp 17) (.tmp 18) 24 rfl 5 i0 _ 1 1 Tryd.underlying24 hi hz0 hz1 hz2 rfl (by decide) g o j cap ((xs.drop o).take j) rfl ?lo ?olds _ 1 _ [.int .u8 99] rfl rfl ?c1 (one_u8 _) ?spare ?maxLen ?bytes ?room ?grow)
      case lo => simp; omega
      case olds => intro k u hk2; rw [World.cell?_alloc_lt _ _ _ (show g < _ from hgl)]; exact hall k u hk2
      case c1 => exact cell_one _ _ _
      case spare => intro hr k hk2; obtain rfl : k = 0 := by simpa using hk2
                    exact ⟨by rw [(hk.alloc _).cell (j := o + j * 1 + 0) (v := xs[o + j]'(by omega)) (by simp)]; rfl, (hk.alloc _).frozen _⟩
      case maxLen => unfold maxLen; omega
      case bytes => omega
      case room =>
        intro hr
        simp only [World.setCells]
        have k1 := (hk.alloc (.cells #[.int .u8 99] 5 (0, 0))).set (o + j) (.int .u8 99)
        have g1 := grown_trans hg (grown_trans (World.grownBy_alloc wr (.cells #[.int .u8 99] 5 (0, 0)) (some g)) (grown_set _ g (o + j) (.int .u8 99)))
        have t1 := HT.out.set j (by omega) (.int .u8 99)
        have hl1 : (xs.set (o + j) (.int .u8 99)).length = xs.length := by simp
        generalize World.setCell _ _ _ = w2 at k1 g1 ⊢
        have hc := k1.cell (j := o + j) (v := .int .u8 99) (by rw [List.getElem?_set]; simp; omega)
        have hfz := k1.frozen (o + j)
        have HK := hide (k1.set (o + j) (.int .u8 98))
        have HG := hide (grown_trans g1 (grown_set w2 g (o + j) (.int .u8 98)))
        have HT2 := hide (t1.set j (by omega) (.int .u8 98))
        clear hk hu hg k1 g1 hall t1 hl1
        go_wp2
        go_end0
        exact ⟨rfl, ⟨_, HK, HT2⟩, HG⟩
      case grow =>
        intro hr v' w2 ho2 hg2
        obtain ⟨A2, c2, rfl⟩ := own_shape ho2
        obtain ⟨g2, rfl⟩ := own_some ho2 (by omega)
        have k1 := (hk.alloc (.cells #[.int .u8 99] 5 (0, 0))).grown hg2
        have hge := (ho2.lt g2 rfl).1
        have hc := ho2.cellAt j (by omega)
        have hlo : ((xs.drop o).take j).length = j := by simp; omega
        rw [List.getElem?_append_right (by omega), hlo, Nat.sub_self] at hc
        have hfz := ho2.frozenAt j
        have HK := hide (k1.other (h := g2) (by omega) j (.int .u8 98))
        have HG : Hid (w.grownBy (w2.setCell ⟨g2, j, none⟩ (.int .u8 98)) (some g)) := by
          have q := grown_trans hg (grown_trans (World.grownBy_alloc wr (.cells #[.int .u8 99] 5 (0, 0)) (some g)) ⟨hg2.os, hg2.tape, hg2.output, hg2.size, fun k hk2 _ => hg2.block k hk2 (by simp)⟩)
          exact grown_new q (by left; show w.heap.size ≤ g2; have := hg.size; omega) _
        have hcp := own_cap ho2
        clear hk hu hg k1 hall ho2 hg2 hlo
        go_wp2
        go_end0
        exact ⟨rfl, ⟨_, HK, HT.out⟩, HG⟩
end Go.Proofs.YtfbboiagfjkgcaaDoor
