/-
  Contracts of Go's library: math/bits.Mul64, Mul, slices.Repeat; and New of package flash.
-/
import Derived.Test.YtahnfkoakaimhaaFPkg5
namespace Go.Proofs.Ytahnfkoakaimhaa
open Go.RowKit
set_option maxHeartbeats 400000

theorem and_low (n : Nat) (h : n ≤ 4096) : bits .and .u64 (n : Int) 4294967295 = (n : Int) := by
  rw [show (4294967295 : Int) = ((4294967295 : Nat) : Int) from rfl, u64_and_nat _ _ (by omega) (by omega), show 4294967295 = 2 ^ 32 - 1 from rfl, Nat.and_two_pow_sub_one_of_lt_two_pow (by omega)]
theorem Mul64_one (n : Nat) (h : n ≤ 4096) (w : World) : Calls Try.prog 51 #[.int .u64 1, .int .u64 (n : Int)] w fun e w' => e = .returned (.tuple #[.int .u64 0, .int .u64 (n : Int)]) ∧ w = w' := by
  have h1 := and_low n h
  have h2 : bits .and .u64 1 4294967295 = 1 := and_low 1 (by omega)
  have h3 : bits .and .u64 0 4294967295 = 0 := and_low 0 (by omega)
  have h4 : (n : Int) / 4294967296 = 0 := by omega
  go_enter Try.func51, Try.ntmps51
  go_wp2
  go_ret2
  exact ⟨rfl, rfl⟩
theorem Mul_one (n : Nat) (h : n ≤ 4096) (w : World) : Calls Try.prog 38 #[.int .u64 1, .int .u64 (n : Int)] w fun e w' => e = .returned (.tuple #[.int .u64 0, .int .u64 (n : Int)]) ∧ w = w' := by
  go_enter Try.func38, Try.ntmps38
  go_wp2_with (go_at_call 51; refine (Mul64_one n h _).mono ?_; rintro e w1 ⟨rfl, rfl⟩)
  go_ret2
  exact ⟨rfl, rfl⟩
theorem made (k : Nat) (z : Value) : madeCells #[z] k = (List.replicate k z).toArray := by
  apply Array.toList_inj.1; rw [toList_madeCells_one]
theorem make32 (n : Nat) (h : n ≤ 4096) (W : World) :
    (Instr.makeSlice 36 (.int .i64 (n : Int)) (.int .i64 (n : Int))).run Try.prog W = .ok (.slice (some ⟨W.heap.size, 0, none⟩) n n) (W.alloc (.cells (List.replicate n (.int .u32 0)).toArray 37)) := by
  obtain ⟨i0, hi, hz0, hz1, hz2⟩ := info_parts info32
  rw [run_make W 36 37 i0 _ Try.underlying36 hi hz0 .i64 .i64 (n : Int) (n : Int) (by omega) (by omega) (by rw [hz2]; omega) (by omega), hz1]
  rw [show (n : Int).toNat = n by omega, Nat.mul_one]
  simp [Value.cells, made]
/-- j words made ones, k are there. -/
def repW (k j : Nat) : List Value := List.replicate j (.int .u32 4294967295) ++ List.replicate (k - j) (.int .u32 0)
theorem repW_len {k j : Nat} (h : j ≤ k) : (repW k j).length = k := by simp [repW]; omega
theorem repW_one {k j : Nat} : ∀ v ∈ repW k j, v.oneCell' = true := by
  intro v hv
  rcases List.mem_append.1 hv with hv | hv <;> (rw [List.eq_of_mem_replicate hv]; rfl)
theorem repW_step (k j m : Nat) (h : j + m ≤ k) : splice (repW k j) j (List.replicate m (.int .u32 4294967295)) = repW k (j + m) := by
  unfold splice repW
  rw [List.take_left' (by simp), List.length_replicate, List.drop_append, List.length_replicate, List.drop_eq_nil_of_le (by simp), List.nil_append, List.drop_replicate, ← List.append_assoc, List.replicate_append_replicate]
  congr 2
  omega
theorem repW_all (k : Nat) : repW k k = cs32 (List.replicate k ones32) := by
  unfold repW cs32
  rw [Nat.sub_self, List.map_replicate]
  simp [ones32_toNat]
theorem repW_at {k j i : Nat} (h : i < j) : (repW k j)[i]? = some (.int .u32 4294967295) := by
  unfold repW
  rw [List.getElem?_append_left (by simpa using h), List.getElem?_replicate, if_pos h]
theorem tail32 (g k j : Nat) (h : j < k) (W : World) :
    (Instr.slice 36 (.slice (some ⟨g, 0, none⟩) k k) (some (.int .i64 (j : Int))) none none).run Try.prog W = .ok (.slice (some ⟨g, j, none⟩) (k - j) (k - j)) W := by
  have he : Try.prog.elem 36 = 37 := by simp [Program.elem, Try.underlying36]
  have hs : ∀ W, (Go.sizeOf 37).run Try.prog W = .ok 1 W := by
    intro W
    obtain ⟨i, hi, h1⟩ := Option.map_eq_some_iff.1 size32
    simp [sizeOf, typeInfo, hi, h1]
  rw [run_slice_l W 36 _ k k (by rw [he]; exact Try.underlying36) .i64 (j : Int) (by omega) (by omega), he, hs]
  have h1 : ¬ (k = j) := by omega
  simp [Result.andThen, Go.sliced, Addr.add, h1]
  exact fun h => h.symm
theorem head32 (g k j : Nat) (h : j ≤ k) (W : World) :
    (Instr.slice 36 (.slice (some ⟨g, 0, none⟩) k k) none (some (.int .i64 (j : Int))) none).run Try.prog W = .ok (.slice (some ⟨g, 0, none⟩) j k) W := by
  have he : Try.prog.elem 36 = 37 := by simp [Program.elem, Try.underlying36]
  have hs : ∀ W, (Go.sizeOf 37).run Try.prog W = .ok 1 W := by
    intro W
    obtain ⟨i, hi, h1⟩ := Option.map_eq_some_iff.1 size32
    simp [sizeOf, typeInfo, hi, h1]
  rw [run_slice_h W 36 _ k k (by rw [he]; exact Try.underlying36) .i64 (j : Int) (by omega) (by omega), he, hs]
  simp [Result.andThen, Go.sliced, Addr.add]
theorem rep_one (m : Nat) : ∀ v ∈ List.replicate m (Value.int .u32 4294967295), v.oneCell' = true := by
  intro v hv; rw [List.eq_of_mem_replicate hv]; rfl
theorem step_rep {ops : Array Oper} {o : Oper} {a : Act} {w w0 : World} {K : Act → World → Prop} {Q : Exit → Act → World → Prop} {E : Prop} (hgd : o.guard = none) (d s : Operand)
    (ho : o.op = .call { callee := .builtin .copy, args := #[d, s], argTypes := #[36, 36] }) (g k j m : Nat) (hd : a.eval d = .slice (some ⟨g, j, none⟩) (k - j) (k - j)) (hs : a.eval s = .slice (some ⟨g, 0, none⟩) j k)
    (hb : Blk w g 37 (repW k j)) (hbel : Below g w0 w) (hm : m = min j (k - j)) (hj : j ≤ k)
    (h : ∀ w', Hid (Blk w' g 37 (repW k (j + m))) → Below g w0 w' → K (a.put o.dst (goInt m)) w') :
    if Region.wanted o (yielded ops a.tmps) = true then Oper.wp Try.prog o a w K Q else E := by
  refine step_copy_splice hgd d s 36 36 ho 37 Try.underlying36 size32 _ _ _ _ _ _ hd hs g j (repW k j) 37 hb (List.replicate m (.int .u32 4294967295)) (by rw [List.length_replicate]; exact hm) (fun _ => ⟨rfl, _, rfl, fun i v hv => ?_⟩) (by rw [List.length_replicate, repW_len hj]; omega) (rep_one m) g w0 hbel (Nat.le_refl _) ?_
  · rw [List.getElem?_replicate] at hv
    split at hv
    · obtain rfl := Option.some.inj hv
      rw [Addr.add_lit, Nat.zero_add]
      exact hb.cell (repW_at (by omega))
    · cases hv
  · intro w' HG hb4
    rw [repW_step k j m (by omega)] at HG
    rw [List.length_replicate]
    exact h w' HG hb4
theorem Repeat_any (k : Nat) (h1 : 1 ≤ k) (h2 : k ≤ 4096) (gx : Nat) (w : World) (hb : Blk w gx 37 [.int .u32 4294967295]) :
    Calls Try.prog 25 #[.slice (some ⟨gx, 0, none⟩) 1 1, .int .i64 (k : Int)] w (Lays w (List.replicate k ones32)) := by
  have hmk := make32 k h2
  have dk1 : decide ((k : Int) < 0) = false := by simp
  have dk2 : decide ((9223372036854775807 : Int) < (k : Int)) = false := by simp; omega
  have HB := hide hb
  have HS0 := hide (repW_step k 0 1 (by omega))
  have HZ := hide (show repW k 0 = List.replicate k (.int .u32 0) by simp [repW])
  clear hb
  go_enter Try.func25, Try.ntmps25
  go_wp2_with (first
    | (go_at_call 38; refine (Mul_one k h2 _).mono ?_; rintro e w1 ⟨rfl, rfl⟩)
    | (refine wpList_copy_splice rfl (.tmp 31) (.tmp 32) 36 36 rfl 37 Try.underlying36 size32 _ _ _ _ _ _ rfl rfl w.heap.size 0 (List.replicate k (.int .u32 0)) 37 (Blk.new w 37 _) (List.replicate 1 (.int .u32 4294967295)) (by show 1 = Nat.min 1 k; rw [show Nat.min 1 k = min 1 k from rfl]; omega) (fun _ => ⟨rfl, _, rfl, fun j v hv => by (rcases j with _ | j; (simp at hv; subst hv; exact (HB.out.alloc _).cell (j := 0) rfl); simp at hv)⟩) (by simp; omega) (rep_one 1) w.heap.size w ((Below.refl _ _).alloc (Nat.le_refl _) _) (Nat.le_refl _) ?_; intro w2 HG2 hB2; rw [← HZ.out, HS0.out] at HG2))
  go_loopw [8] (fun n wr => ∃ j : Nat, 1 ≤ j ∧ j ≤ k ∧ n = .int .i64 (j : Int) ∧ Blk wr w.heap.size 37 (repW k j) ∧ Below w.heap.size w wr) (fun n _ => k - (intOf n).toNat)
  case atStart => exact ⟨1, Nat.le_refl _, h1, rfl, HG2.out, hB2⟩
  case round =>
    clear HG2 hB2
    obtain ⟨j, hj1, hj2, rfl, hb, hbel⟩ := hrel
    by_cases hlt : j < k
    · have hsl1 := tail32 w.heap.size k j hlt
      have hsl2 := head32 w.heap.size k j hj2
      obtain ⟨m, hm⟩ : ∃ m, m = min j (k - j) := ⟨_, rfl⟩
      have HBD := hide hb.drew
      have hbeld := hbel.drew
      have HM := hide hm
      have hm1 : 1 ≤ m := by omega
      have hm2 : j + m ≤ k := by omega
      clear hm
      go_wp2_with fail
      go_region_law (refine step_rep rfl (.tmp 41) (.tmp 44) rfl w.heap.size k j m (by simp only [List.getElem_toArray, List.getElem_cons_zero, List.getElem_cons_succ, Act.put, List.setIfInBounds_toArray, List.set_cons_zero, List.set_cons_succ]; rfl) (by simp only [List.getElem_toArray, List.getElem_cons_zero, List.getElem_cons_succ, Act.put, List.setIfInBounds_toArray, List.set_cons_zero, List.set_cons_succ]; rfl) HBD.out hbeld HM.out hj2 ?_; intro w4 HG hb4)
      simp only [Act.put, List.setIfInBounds_toArray]
      have hwr : IntKind.i64.wrap ((j : Int) + (m : Int)) = ((j + m : Nat) : Int) := by simp only [IntKind.wrap, IntKind.bits, IntKind.signed]; simp; omega
      rw [hwr]
      refine ⟨⟨_, _, _, _, _, _, _, _, _, _, _, _, _, _, ⟨j + m, by omega, by omega, rfl, HG.out, hb4⟩, rfl⟩, ?_⟩
      simp [intOf]; omega
    · obtain rfl : j = k := by omega
      go_wp2
      go_ret
      rw [repW_all] at hb
      have hlen : (List.replicate j ones32).length = j := List.length_replicate
      refine ⟨w.heap.size, j, by rw [hlen]; rfl, ?_, Keeps.of_below hbel, Nat.le_refl _⟩
      rw [hlen]
      exact ⟨by rw [cs32_len, hlen, Nat.mul_one], .inr ⟨_, j, _, rfl, Nat.zero_le _, hb, Nat.le_refl _, by unfold maxLen; omega, by simp [cs32_len], by simp [cs32]⟩⟩
theorem New_no (n : Int) (w : World) (h : cntB n = false) : Calls Try.prog 7 #[.int .i64 n] w fun e w' => e = .returned (.pointer none) ∧ w = w' := by
  have H := hide h
  clear h
  go_enter Try.func7, Try.ntmps7
  go_wp2_with (go_at_call 24; refine (isCount_any _ _).mono ?_; rintro e w1 ⟨rfl, rfl⟩; rw [H.out])
  go_ret
  exact ⟨rfl, rfl⟩
theorem New_any (k : Nat) (h1 : 1 ≤ k) (h2 : k ≤ 16) (w : World) : Calls Try.prog 7 #[.int .i64 (k : Int)] w (Makes w (ofS (List.replicate (256 * k) ones32))) := by
  have H := hide (show cntB (k : Int) = true by unfold cntB; rw [decide_eq_true_iff]; omega)
  obtain ⟨n, hn⟩ : ∃ n, n = 256 * k := ⟨_, rfl⟩
  have hni : (k : Int) * 256 = (n : Int) := by omega
  have HN := hide hn
  have hn1 : 1 ≤ n := by omega
  have hn2 : n ≤ 4096 := by omega
  rw [← hn]
  clear hn
  go_enter Try.func7, Try.ntmps7
  go_wp2_with (first
    | (go_at_call 24; refine (isCount_any _ _).mono ?_; rintro e w1 ⟨rfl, rfl⟩; rw [H.out])
    | (go_at_call 25; refine (Repeat_any n hn1 hn2 _ _ (Blk.new w 37 [.int .u32 4294967295])).mono ?_; rintro e w2 ⟨h3, c3, rfl, ho3, hk3, hh3⟩))
  go_ret
  have hlt := own_lt ho3
  have hs := hk3.size
  simp at hs hh3
  have hnn := HN.out
  rw [List.length_replicate] at ho3
  exact ⟨_, h3, rfl, Fl.of ⟨⟨k, h1, h2, by show (List.replicate n ones32).length = _; rw [List.length_replicate, hnn]⟩, Nat.zero_le _⟩ (by omega) (Blk.new _ _ (flN h3 c3 n ⟨[], true, 0, none⟩)) (ho3.alloc _) rfl, (((Keeps.refl [] w).alloc _).trans hk3 (by simp)).alloc _, by omega, by omega⟩
end Go.Proofs.Ytahnfkoakaimhaa
