/-
  Contracts of package judge: deepest, begin.
-/
import Derived.Test.YtdikiabjkmigdaaGreatDoorUPkg2
namespace Go.Proofs.YtdikiabjkmigdaaGreatDoor
open Go.RowKit
set_option maxRecDepth 20000
set_option maxHeartbeats 1000000

theorem deep_step {d : List Int} {j : Nat} (h : j < d.length) : deepL (d.take (j + 1)) = max (deepL (d.take j)) (dv (gd d j)) := by
  unfold deepL
  rw [List.take_succ_eq_append_getElem h, List.foldl_append, gd_lt h]
  simp only [List.foldl_cons, List.foldl_nil]
  have h0 : 0 ≤ (d.take j).foldl max 0 := ((foldl_max_le (d.take j) 0 ((d.take j).foldl max 0)).1 (Int.le_refl _)).1
  unfold dv
  split <;> omega
theorem deepL_nonneg (d : List Int) : 0 ≤ deepL d := ((deepL_le d (deepL d)).1 (Int.le_refl _)).1
theorem deepest_any (a1 a2 a3 a4 a5 : Int) (g n : Nat) (L : Value) (d : List Int) (w : World) (hb : Blk w g 108 (csS d)) (hn : d.length = n) (hl : n ≤ 601) (hL : ∃ h, L = .slice (some ⟨h, 0, none⟩) n n) :
    Calls Tryz.prog 81 #[.agg #[.int .i64 a1, .int .i64 a2, .int .i64 a3, .int .i64 a4, .int .i64 a5, .slice (some ⟨g, 0, none⟩) n n, L]] w (Tells w (deepL d)) := by
  obtain ⟨h, rfl⟩ := hL
  have HB := hide hb
  have hg := hb.lt
  have HN := hide hn
  clear hb hn
  go_enter Tryz.func81, Tryz.ntmps81
  go_wp2
  go_loopw [3, 9] (fun m i wr => ∃ (j : Nat) (v : Int), j ≤ n ∧ Hid (deepL (d.take j) = v) ∧ m = .int .i64 v ∧ i = .int .i64 (j : Int) ∧ Below w.heap.size w wr) (fun _ i _ => n - (intOf i).toNat)
  case atStart => exact ⟨0, 0, Nat.zero_le _, rfl, rfl, rfl, below_box _ _⟩
  case round =>
    obtain ⟨j, v, hj, HV, rfl, rfl, hbl⟩ := hrel
    have hs := hbl.size
    by_cases hlt : j < n
    · have hbr := HB.out.keep hbl hg
      obtain ⟨c0, c1⟩ := csS_at (d := d) (t := j) (by have := HN.out; omega)
      replace c0 := hbr.cell c0
      replace c1 := hbr.cell c1
      have HD := hide (deep_step (d := d) (j := j) (by have := HN.out; omega))
      obtain ⟨u, hu⟩ : ∃ u, dv (gd d j) = u := ⟨_, rfl⟩
      rw [hu] at c1 HD
      rw [HV.out] at HD
      clear hu hbr
      generalize decide (0 ≤ gd d j) = bj at c0
      have hmx := max_run v u
      generalize max v u = t at hmx HD
      go_wp2
      go_roundw
      case rel => exact ⟨j + 1, t, by omega, HD, rfl, by go_num, hbl.alloc hs _⟩
      case measure => simp [intOf]; omega
    · obtain rfl : n = j := by omega
      go_wp2
      go_ret
      exact ⟨ret_int (by rw [← HV.out, ← HN.out, List.take_length]), hbl⟩
theorem makeG (n : Nat) (h : n ≤ 601) (W : World) :
    (Instr.makeSlice 86 (.int .i64 (n : Int)) (.int .i64 (n : Int))).run Tryz.prog W = .ok (.slice (some ⟨W.heap.size, 0, none⟩) n n) (W.alloc (.cells (csG (List.replicate n 0)).toArray 3)) := by
  obtain ⟨i, hi, h1⟩ := Option.map_eq_some_iff.1 infoInt
  simp at h1
  rw [run_make W 86 3 i _ Tryz.underlying86 hi h1.1 .i64 .i64 (n : Int) (n : Int) (by omega) (by omega) (by rw [h1.2.2]; omega) (by omega), h1.2.1]
  congr 3
  apply Array.toList_inj.1
  rw [Int.toNat_natCast, Nat.mul_one]
  simp [csG, Value.cells, toList_madeCells_one]
theorem gd_rep {n t : Nat} (h : t < n) (v : Int) : gd (List.replicate n v) t = v := by
  unfold gd
  rw [List.getD_eq_getElem?_getD, List.getElem?_replicate, if_pos h]; rfl
theorem madeS (n : Nat) : (madeCells #[.bool false, .int .i64 0] (n * 2)).toList = csS (List.replicate n (-1)) := by
  apply List.ext_getElem?
  intro j
  by_cases h : j < n * 2
  · obtain ⟨c0, c1⟩ := csS_at (d := List.replicate n (-1)) (t := j / 2) (by simp; omega)
    rw [gd_rep (by omega)] at c0 c1
    have e : (madeCells #[.bool false, .int .i64 0] (n * 2)).toList[j]? = some ((#[Value.bool false, .int .i64 0] : Array Value)[j % 2]!) := by simp [madeCells, h]
    rw [e]
    by_cases hz : j % 2 = 0
    · rw [show j / 2 * 2 = j by omega] at c0
      rw [c0, hz]; rfl
    · rw [show j / 2 * 2 + 1 = j by omega] at c1
      rw [c1, show j % 2 = 1 by omega]; rfl
  · rw [List.getElem?_eq_none (by simp [madeCells]; omega), List.getElem?_eq_none (by rw [csS_len]; simp; omega)]
theorem makeS (n : Nat) (h : n ≤ 601) (W : World) :
    (Instr.makeSlice 102 (.int .i64 (n : Int)) (.int .i64 (n : Int))).run Tryz.prog W = .ok (.slice (some ⟨W.heap.size, 0, none⟩) n n) (W.alloc (.cells (csS (List.replicate n (-1))).toArray 108)) := by
  obtain ⟨i, hi, h1⟩ := Option.map_eq_some_iff.1 infoSt
  simp at h1
  rw [run_make W 102 108 i _ Tryz.underlying102 hi h1.1 .i64 .i64 (n : Int) (n : Int) (by omega) (by omega) (by rw [h1.2.2]; omega) (by omega), h1.2.1]
  congr 3
  apply Array.toList_inj.1
  rw [Int.toNat_natCast]
  exact madeS n
theorem sizeW : (Tryz.prog.info? 104).map (·.size) = some 7 := by kernel_rfl
theorem ret_walk {fn : Func} {R : Ending → World → Prop} {a : Act} {w : World} {p : Tmp} {g : Nat} {cs : List Value} (h : fn.results = #[.cell p 104])
    (hp : a.tmps.getD p undef = .pointer (some ⟨g, 0, none⟩)) (hb : Blk w g 104 cs) (hl : cs.length = 7) (hd : a.defers = [])
    (hR : R (.returned (.agg cs.toArray)) w) : bodyPost Tryz.prog fn R .ret a w :=
  bodyPost_ret_by (results_cell_row h a.tmps w g 104 cs.toArray (0, 0) _ hp hb Tryz.underlying104 rfl (by simpa [hl] using sizeW)) hd hR
/-- A walk that knows of position 0 alone. -/
def Begun (w : World) (f : Fr) (n : Nat) (e : Ending) (w' : World) : Prop := ∃ g h, e = .returned (.agg #[.int .i64 f.s, .int .i64 f.o, .int .i64 f.n, .int .i64 f.i, .int .i64 f.u, .slice (some ⟨g, 0, none⟩) (n + 1) (n + 1), .slice (some ⟨h, 0, none⟩) (n + 1) (n + 1)]) ∧
  w.heap.size ≤ g ∧ w.heap.size ≤ h ∧ St w' g h (ini n) (zer n) ∧ Below w.heap.size w w'
section
variable (w : World) (a b c d e : Obj) (t : TypeId) (cs : List Value)
theorem ch1 : Blk (((((w.alloc a).alloc (.cells cs.toArray t (0, 0))).alloc c).alloc d).alloc e).drew (w.heap.size + 1) t cs := ((((Blk.at (w.alloc a) t cs (by simp)).alloc c).alloc d).alloc e).drew
theorem ch2 : Blk (((((w.alloc a).alloc b).alloc (.cells cs.toArray t (0, 0))).alloc d).alloc e).drew (w.heap.size + 1 + 1) t cs := (((Blk.at ((w.alloc a).alloc b) t cs (by simp)).alloc d).alloc e).drew
theorem ch3 : Blk (((((w.alloc a).alloc b).alloc c).alloc (.cells cs.toArray t (0, 0))).alloc e).drew (w.heap.size + 1 + 1 + 1) t cs := ((Blk.at (((w.alloc a).alloc b).alloc c) t cs (by simp)).alloc e).drew
theorem ch4 : Blk (((((w.alloc a).alloc b).alloc c).alloc d).alloc (.cells cs.toArray t (0, 0))).drew (w.heap.size + 1 + 1 + 1 + 1) t cs := (Blk.at ((((w.alloc a).alloc b).alloc c).alloc d) t cs (by simp)).drew
theorem ch_below : Below w.heap.size w (((((w.alloc a).alloc b).alloc c).alloc d).alloc e).drew := ((((((Below.refl _ w).alloc (Nat.le_refl _) _).alloc (by simp) _).alloc (by simp; omega) _).alloc (by simp; omega) _).alloc (by simp; omega) _).drew
end
theorem begin_any (s1 s2 s3 s4 s5 : Int) (n : Nat) (w : World) (hn : n ≤ 600) :
    Calls Tryz.prog 79 #[.int .i64 (n : Int), .agg #[.int .i64 s1, .int .i64 s2, .int .i64 s3, .int .i64 s4, .int .i64 s5]] w (Begun w ⟨s1, s2, s3, s4, s5⟩ n) := by
  have hG := makeG (n + 1) (by omega)
  have hS := makeS (n + 1) (by omega)
  rw [show ((n + 1 : Nat) : Int) = (n : Int) + 1 by omega] at hG hS
  rw [show csS (List.replicate (n + 1) (-1)) = .bool false :: .int .i64 0 :: csS (List.replicate n (-1)) from rfl] at hS
  obtain ⟨ys, hys⟩ : ∃ ys, csS (List.replicate n (-1)) = ys := ⟨_, rfl⟩
  obtain ⟨zs, hzs⟩ : ∃ zs, csG (List.replicate (n + 1) 0) = zs := ⟨_, rfl⟩
  rw [hys] at hS
  rw [hzs] at hG
  have HY := hide (And.intro hys hzs)
  clear hys hzs
  go_enter Tryz.func79, Tryz.ntmps79
  go_wp2_with fail
  go_region
  all_goals
    go_wp2
    refine ret_walk (g := w.heap.size + 1) rfl rfl (ch1 _ _ _ _ _ _ [_, _, _, _, _, _, _]) rfl rfl ⟨_, _, rfl, by omega, by omega, ⟨by omega, ?_, ?_⟩, ch_below _ _ _ _ _ _⟩
    · rw [show csS (ini n) = .bool true :: .int .i64 0 :: ys by rw [← HY.out.1]; rfl]
      first | exact ch2 _ _ _ _ _ _ _ | exact ch3 _ _ _ _ _ _ _ | exact ch4 _ _ _ _ _ _ _
    · rw [show csG (zer n) = zs from HY.out.2]
      first | exact ch2 _ _ _ _ _ _ _ | exact ch3 _ _ _ _ _ _ _ | exact ch4 _ _ _ _ _ _ _
end Go.Proofs.YtdikiabjkmigdaaGreatDoor
