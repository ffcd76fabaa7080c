/-
  The walk of LexJoins: it returns true, and turns nothing that was there.
-/
import Derived.Test.YtbcgofmhplgfbaaDoorLLaw3
namespace Go.Proofs.YtbcgofmhplgfbaaDoor
open Go.RowKit
set_option maxHeartbeats 2000000
set_option maxRecDepth 20000

theorem wpList_append_run {ops : Array Oper} {rest : List Oper} {o : Oper} {a : Act} {w : World} {Q : Exit → Act → World → Prop} (hw : Region.wanted o (yielded ops a.tmps) = true) (s x : Operand)
    (ho : o.op = .call { callee := .builtin .append, args := #[s, x], argTypes := #[24, 24] }) (v u : Value) (hs : a.eval s = v) (hx : a.eval x = u) (r : Value) (w' : World)
    (hrun : (Builtin.append_ #[24, 24] o.type #[v, u]).run Tryd.prog w = .ok r w') (h : wpList Tryd.prog ops Q rest (a.put o.dst r) w') : wpList Tryd.prog ops Q (o :: rest) a w := by
  refine wpList_step fun K hK => ?_
  rw [if_pos hw]
  unfold Oper.wp
  simp [execOp, ho, resolve, invoke, builtin, hs, hx, hrun, Result.andThen]
  exact hK _ _ h
theorem line_list (a b : ByteArray) : (a ++ (⟨#[10]⟩ : ByteArray) ++ b).data.toList = a.data.toList ++ 10 :: b.data.toList := by
  simp [ByteArray.data_append]
theorem line_size (a b : ByteArray) : (a ++ (⟨#[10]⟩ : ByteArray) ++ b).size = a.size + 1 + b.size := by
  rw [ByteArray.size_append, ByteArray.size_append]; rfl
theorem joins_big (a b : ByteArray) (w : World) (ha : a.size ≤ maxLen) (hb : b.size ≤ maxLen) (he : Env w) (h : 2000 < a.size ∨ 2000 < b.size) :
    Calls Tryd.prog 7 #[.string a, .string b] w fun e w' => e = .returned (.bool true) ∧ Below w.heap.size w w' := by
  unfold maxLen at ha hb
  by_cases h1 : 2000 < a.size
  · clear h
    go_enter Tryd.func7, Tryd.ntmps7
    go_wp2_with (refine (lknown_any _ he).mono ?_; rintro e w' ⟨rfl, b⟩)
    go_ret
    exact ⟨rfl, b⟩
  · have h2 : 2000 < b.size := by omega
    clear h
    go_enter Tryd.func7, Tryd.ntmps7
    go_wp2_with (refine (lknown_any _ he).mono ?_; rintro e w' ⟨rfl, b⟩)
    go_ret
    exact ⟨rfl, b⟩
theorem joins_walk (a b : ByteArray) (w : World) (ha : a.size ≤ maxLen) (hb : b.size ≤ maxLen) (he : Env w) :
    Calls Tryd.prog 7 #[.string a, .string b] w fun e w' => e = .returned (.bool true) ∧ Below w.heap.size w w' := by
  by_cases hbig : 2000 < a.size ∨ 2000 < b.size
  · exact joins_big a b w ha hb he hbig
  have ha' : a.size ≤ 2000 := by omega
  have hb' : b.size ≤ 2000 := by omega
  have HA := hide ha
  have HB := hide hb
  clear ha hb hbig
  obtain ⟨l, er, at_, hl⟩ : ∃ l er at_, scanL a.data.toList = (l, er, at_) := ⟨_, _, _, rfl⟩
  obtain ⟨m, fr, to, hm⟩ : ∃ m fr to, scanL b.data.toList = (m, fr, to) := ⟨_, _, _, rfl⟩
  obtain ⟨n, gr, pl, hn⟩ : ∃ n gr pl, scanL (a.data.toList ++ 10 :: b.data.toList) = (n, gr, pl) := ⟨_, _, _, rfl⟩
  have hj := joins a.data.toList b.data.toList (by rw [size_list]; omega) (by rw [size_list]; omega)
  rw [hl, hm, hn] at hj
  simp only [size_list] at hj
  obtain ⟨j1, j2, j3⟩ := hj
  have hla := (scanL_sum a.data.toList).2
  have hlb := (scanL_sum b.data.toList).2
  rw [hl, size_list] at hla
  rw [hm, size_list] at hlb
  simp only at hla hlb
  have hto : fr ≠ 0 → to ≤ 2000 := by
    have := (places (l := b.data.toList) (by rw [size_list]; omega)).2
    rw [hm, size_list] at this
    intro h
    have := this h
    simp at this
    omega
  have HN : Hid (scanL (a ++ (⟨#[10]⟩ : ByteArray) ++ b).data.toList = (n, gr, pl)) := hide (by rw [line_list]; exact hn)
  have HL := hide hl
  have HM := hide hm
  have hz1 : ¬ 9223372036854775807 < a.size + (⟨#[10]⟩ : ByteArray).size := by show ¬ _ < _ + 1; omega
  have hz2 : ¬ 9223372036854775807 < (a ++ (⟨#[10]⟩ : ByteArray)).size + b.size := by rw [ByteArray.size_append]; show ¬ _ < _ + 1 + _; omega
  have hz3 : (a ++ (⟨#[10]⟩ : ByteArray) ++ b).size ≤ maxLen := by rw [line_size]; unfold maxLen; omega
  have HZ3 := hide hz3
  clear hl hm hn hz3
  by_cases h0 : er = 0
  · by_cases h1 : fr = 0
    · obtain ⟨rfl, hsh⟩ := j3 h0 h1
      have HSH := hide hsh
      subst h0
      subst h1
      clear hto
      clear j1 j2 j3 hsh
      go_enter Tryd.func7, Tryd.ntmps7
      go_wp2_with fail
      refine (Scan_parts a HA.out w he HL).mono ?_
      rintro e w1 ⟨A1, n1, c1, rfl, hr1, b1⟩
      have he1 := he.keep b1
      go_wp2_with fail
      refine (Scan_parts b HB.out w1 he1 HM).mono ?_
      rintro e w2 ⟨A2, n2, c2, rfl, hr2, b2⟩
      have he2 := he1.keep b2
      have d2 := b1.trans (b2.mono b1.size)
      have r1 := hr1.keep b2 (Nat.le_refl _)
      have z2 := b2.size
      clear hr1 b1 b2 he he1
      have HC := Scan_parts (a ++ (⟨#[10]⟩ : ByteArray) ++ b) HZ3.out w2 he2 HN
      go_wp2_with fail
      refine HC.mono ?_
      clear HC
      rintro e w3 ⟨A3, n3, c3, rfl, hr3, b3⟩
      have he3 := he2.keep b3
      have d3 := d2.trans (b3.mono d2.size)
      have r1 := r1.keep b3 z2
      have r2 := hr2.keep b3 (Nat.le_refl _)
      have z3 := b3.size
      clear hr2 b3 d2 he2
      have hlz : n1 ≤ 2000 := by have := r1.len; omega
      have hmz : n2 ≤ 2000 := by have := r2.len; omega
      have o4 : (w3.alloc (.cells #[] 26)).ownsRow w3.heap.size 26 4 (.slice (some ⟨w3.heap.size, 0, none⟩) 0 0) 0 (csT []) := World.ownsRow_lit (size := 4) (e := 26) w3 #[] 0 (Nat.le_refl _) (by unfold maxLen; omega) rfl
      have e4 := below_new w3 (.cells #[] 26)
      obtain ⟨A5, c5, w5, run5, o5, g5⟩ := run_append_tok w3.heap.size _ 0 [] o4 24 w1.heap.size A1 n1 c1 l (r1.keep e4 (by omega)) (by omega) e4.size
      have e5 := e4.grown g5 e4.size fun k hk => (o4.lt k hk).1
      rw [Nat.zero_add, List.nil_append] at o5
      rw [Nat.zero_add] at run5
      obtain ⟨A6, c6, w6, run6, o6, g6⟩ := run_append_tok w3.heap.size _ n1 l o5 24 w2.heap.size A2 n2 c2 m (r2.keep e5 z3) (by omega) e5.size
      have e6 := e5.grown g6 e5.size fun k hk => (o5.lt k hk).1
      have r3 := hr3.keep e6 (Nat.le_refl _)
      have r6 := RowT.of_own o6
      have he6 := he3.keep e6
      have d6 := d3.trans (e6.mono d3.size)
      have R5 := hide run5
      have R6 := hide run6
      clear run5 run6 o4 o5 o6 g5 g6 e4 e5 e6 r1 r2 hr3 he3 d3
      go_wp2_with (first
        | (at_builtin; refine wpList_append_run (by rfl) (.tmp 88) (.tmp 89) rfl _ _ rfl rfl _ w5 R5.out ?_)
        | (at_builtin; refine wpList_append_run (by rfl) (.tmp 90) (.tmp 91) rfl _ _ rfl rfl _ w6 R6.out ?_)
        | (go_at_call 18; refine (rSame_any _ _ A3 A6 n3 (n1 + n2) c3 c6 n (l ++ m) w6 r3 r6 HSH.out).mono ?_; rintro e w7 ⟨k, rfl, rfl⟩; have d7 := below_draws d6 k; have he7 : Env (w6.drewN k) := he6.keep (below_draws (Below.refl _ _) k))
        | (go_at_call 8; refine (lknown_any _ he7).mono ?_; rintro e w8 ⟨rfl, b8⟩))
      go_ret
      exact ⟨rfl, d7.trans (b8.mono d7.size)⟩
    · obtain ⟨rfl, rfl, rfl⟩ := j2 h0 h1
      subst h0
      have hto' := hto h1
      clear hto
      have h1' : (gr != 0) = true := by simpa using h1
      clear j1 j2 j3 h1
      go_enter Tryd.func7, Tryd.ntmps7
      go_wp2_with fail
      refine (Scan_parts a HA.out w he HL).mono ?_
      rintro e w1 ⟨A1, n1, c1, rfl, hr1, b1⟩
      have he1 := he.keep b1
      go_wp2_with fail
      refine (Scan_parts b HB.out w1 he1 HM).mono ?_
      rintro e w2 ⟨A2, n2, c2, rfl, hr2, b2⟩
      have he2 := he1.keep b2
      have d2 := b1.trans (b2.mono b1.size)
      clear hr1 hr2 b1 b2 he he1
      have HC := Scan_parts (a ++ (⟨#[10]⟩ : ByteArray) ++ b) HZ3.out w2 he2 HN
      go_wp2_with fail
      refine HC.mono ?_
      clear HC
      rintro e w3 ⟨A3, n3, c3, rfl, hr3, b3⟩
      obtain rfl : n3 = 0 := hr3.len.symm
      have he3 := he2.keep b3
      have d3 := d2.trans (b3.mono d2.size)
      clear hr3 b3 d2 he2
      go_wp2_with fail
      refine (lknown_any _ he3).mono ?_
      rintro e w4 ⟨rfl, b4⟩
      go_wp2
      go_ret
      exact ⟨rfl, d3.trans (b4.mono d3.size)⟩
  · obtain ⟨rfl, rfl, rfl⟩ : n = [] ∧ gr = er ∧ pl = at_ := by have := j1 h0; simpa using this
    have h1' : (gr != 0) = true := by simpa using h0
    clear hto
    clear j1 j2 j3 h0
    go_enter Tryd.func7, Tryd.ntmps7
    go_wp2_with fail
    refine (Scan_parts a HA.out w he HL).mono ?_
    rintro e w1 ⟨A1, n1, c1, rfl, hr1, b1⟩
    have he1 := he.keep b1
    go_wp2_with fail
    refine (Scan_parts b HB.out w1 he1 HM).mono ?_
    rintro e w2 ⟨A2, n2, c2, rfl, hr2, b2⟩
    have he2 := he1.keep b2
    have d2 := b1.trans (b2.mono b1.size)
    clear hr1 hr2 b1 b2 he he1
    have HC := Scan_parts (a ++ (⟨#[10]⟩ : ByteArray) ++ b) HZ3.out w2 he2 HN
    go_wp2_with fail
    refine HC.mono ?_
    clear HC
    rintro e w3 ⟨A3, n3, c3, rfl, hr3, b3⟩
    obtain rfl : n3 = 0 := hr3.len.symm
    have he3 := he2.keep b3
    have d3 := d2.trans (b3.mono d2.size)
    clear hr3 b3 d2 he2
    go_wp2_with fail
    refine (lknown_any _ he3).mono ?_
    rintro e w4 ⟨rfl, b4⟩
    go_wp2
    go_ret
    exact ⟨rfl, d3.trans (b4.mono d3.size)⟩
end Go.Proofs.YtbcgofmhplgfbaaDoor
