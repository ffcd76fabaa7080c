/-
  The walk of LexPlaces: it returns true, and turns nothing that was there.
-/
import Derived.Test.YtbcgofmhplgfbaaDoorLLaw3
namespace Go.Proofs.YtbcgofmhplgfbaaDoor
open Go.RowKit
set_option maxHeartbeats 2000000

theorem drop_at (s : ByteArray) {k : Nat} (h : k < s.size) : s.data.toList.drop k = (s[k]'h) :: s.data.toList.drop (k + 1) := by
  have h' : k < s.data.toList.length := by rw [size_list]; exact h
  rw [List.drop_eq_getElem_cons h']
  congr 1
theorem gap_step {s : ByteArray} {k to : Nat} {st : Bool} (h : skipN st (s.data.toList.drop k) = to - k) (hk : k < to) (ht : to ≤ s.size) :
    ((s[k]'(by omega)).toNat = 10 ∧ skipN false (s.data.toList.drop (k + 1)) = to - (k + 1)) ∨
    ((s[k]'(by omega)).toNat ≠ 10 ∧ st = true ∧ skipN true (s.data.toList.drop (k + 1)) = to - (k + 1)) ∨
    (st = false ∧ ((s[k]'(by omega)).toNat = 32 ∨ (s[k]'(by omega)).toNat = 9 ∨ (s[k]'(by omega)).toNat = 13) ∧ skipN false (s.data.toList.drop (k + 1)) = to - (k + 1)) ∨
    (st = false ∧ (s[k]'(by omega)).toNat = 45 ∧ (∃ h1 : k + 1 < to, (s[k + 1]'(by omega)).toNat = 45) ∧ skipN true (s.data.toList.drop (k + 1)) = to - (k + 1)) := by
  have hks : k < s.size := by omega
  rw [drop_at s hks] at h
  cases st with
  | true =>
    rw [skipN] at h
    by_cases h10 : (s[k]'hks).toNat = 10
    · rw [if_pos h10] at h
      exact .inl ⟨h10, by omega⟩
    · rw [if_neg h10] at h
      exact .inr (.inl ⟨h10, rfl, by omega⟩)
  | false =>
    rw [skipN] at h
    by_cases hb : isBlk (s[k]'hks) = true
    · rw [if_pos hb] at h
      have hw : (s[k]'hks).toNat = 32 ∨ (s[k]'hks).toNat = 9 ∨ (s[k]'hks).toNat = 10 ∨ (s[k]'hks).toNat = 13 := by simpa [isBlk, or_assoc] using hb
      rcases hw with e | e | e | e
      · exact .inr (.inr (.inl ⟨rfl, .inl e, by omega⟩))
      · exact .inr (.inr (.inl ⟨rfl, .inr (.inl e), by omega⟩))
      · exact .inl ⟨e, by omega⟩
      · exact .inr (.inr (.inl ⟨rfl, .inr (.inr e), by omega⟩))
    · rw [if_neg hb] at h
      by_cases hd : (s[k]'hks) = 45 ∧ (s.data.toList.drop (k + 1)).head? = some 45
      · rw [if_pos hd] at h
        have h1s : k + 1 < s.size := by
          apply Nat.lt_of_not_le
          intro hc
          rw [List.drop_of_length_le (by rw [size_list]; exact hc)] at hd
          cases hd.2
        have hd2 := hd.2
        rw [drop_at s h1s] at hd2
        have e45 : (s[k + 1]'h1s) = 45 := by simpa using hd2
        have hpos : 0 < skipN true (s.data.toList.drop (k + 1)) := by
          rw [drop_at s h1s, skipN, if_neg (by rw [e45]; decide)]; omega
        exact .inr (.inr (.inr ⟨rfl, by rw [hd.1]; rfl, ⟨by omega, by rw [e45]; rfl⟩, by omega⟩))
      · rw [if_neg hd] at h; omega
/-- Where the outer loop stands. -/
def Stage (s : ByteArray) (ts : List Tok) (e i : Nat) : Prop := i ≤ ts.length → e ≤ s.size ∧ Chain s.data.toList e (ts.drop i)
theorem stage_last {s : ByteArray} {ts : List Tok} {e : Nat} (h : Stage s ts e ts.length) : e ≤ s.size ∧ skipN false (s.data.toList.drop e) = s.size - e := by
  obtain ⟨h1, h2⟩ := h (Nat.le_refl _)
  rw [List.drop_length] at h2
  have : e + skipN false (s.data.toList.drop e) = s.data.toList.length := h2
  rw [size_list] at this
  exact ⟨h1, by omega⟩
theorem stage_tok {s : ByteArray} {ts : List Tok} {e i : Nat} {t : Tok} (h : Stage s ts e i) (ht : ts[i]? = some t) :
    ∃ k : Nat, t.pl = (k : Int) ∧ e ≤ k ∧ skipN false (s.data.toList.drop e) = k - e ∧ 0 < (str t.tx).size ∧ k + (str t.tx).size ≤ s.size ∧ s.extract k (k + (str t.tx).size) = str t.tx ∧ Stage s ts (k + (str t.tx).size) (i + 1) := by
  obtain ⟨hi, rfl⟩ := List.getElem?_eq_some_iff.1 ht
  obtain ⟨h1, h2⟩ := h (by omega)
  rw [List.drop_eq_getElem_cons hi] at h2
  obtain ⟨k, e1, e2, e3, e4, e5, e6⟩ := h2
  rw [size_list] at e4
  rw [str_size]
  refine ⟨k, e1, by omega, by omega, e3, e4, ?_, fun _ => ⟨e4, e6⟩⟩
  rw [ext_str, Nat.add_sub_cancel_left, ← e5]
theorem stage_start {s : ByteArray} {ts : List Tok} (h : Chain s.data.toList 0 ts) : Stage s ts 0 0 := fun _ => ⟨Nat.zero_le _, h⟩
/-- Where the inner loop stands: within a remark or not, and what is left to be skipped. -/
def Gap (s : ByteArray) (to : Nat) (r j : Value) : Prop := ∃ (st : Bool) (kk : Nat), r = .bool st ∧ j = .int .i64 (kk : Int) ∧ kk ≤ to ∧ Hid (skipN st (s.data.toList.drop kk) = to - kk)
set_option maxRecDepth 100000 in
theorem places_walk (s : ByteArray) (w : World) (hs : s.size ≤ maxLen) (he : Env w) :
    Calls Tryd.prog 6 #[.string s] w fun e w' => e = .returned (.bool true) ∧ Below w.heap.size w w' := by
  have HZ := hide hs
  unfold maxLen at hs
  by_cases hbig : 4096 < s.size
  · go_enter Tryd.func6, Tryd.ntmps6
    go_wp2_with (refine (lknown_any _ he).mono ?_; rintro e w' ⟨rfl, b⟩)
    go_ret
    exact ⟨rfl, b⟩
  have hs' : s.size ≤ 4096 := by omega
  clear hs hbig
  obtain ⟨ts, er, to, hq⟩ : ∃ ts er to, scanL s.data.toList = (ts, er, to) := ⟨_, _, _, rfl⟩
  have hpl := places (l := s.data.toList) (by rw [size_list]; exact hs')
  have htl := (scanL_sum s.data.toList).2
  rw [hq, size_list] at hpl htl
  simp only at hpl htl
  by_cases h0 : er = 0
  · have HS := hide (stage_start (hpl.1 h0))
    subst h0
    have HQ := hide hq
    have b0 : decide ((4096 : Int) < (s.size : Int)) = false := decide_eq_false (by omega)
    clear hq hpl
    go_enter Tryd.func6, Tryd.ntmps6
    go_wp2_with fail
    refine (Scan_parts s HZ.out w he HQ).mono ?_
    rintro e w1 ⟨A, n, c, rfl, hr, b1⟩
    have he1 := he.keep b1
    have hn := hr.len
    subst hn
    have hcap := hr.cap
    clear he
    go_wp2_with fail
    go_loopw [2, 6, 7] (fun _ e i wr => ∃ ee ii q : Nat, e = .int .i64 (ee : Int) ∧ i = .int .i64 (ii : Int) ∧ ii ≤ ts.length + 1 ∧ Hid (Stage s ts ee ii) ∧ wr = w1.drewN q) (fun _ _ i _ => ts.length + 1 - (intOf i).toNat)
    case atStart => exact ⟨0, 0, 0, rfl, rfl, Nat.zero_le _, HS, rfl⟩
    case round =>
      obtain ⟨ee, ii, q, rfl, rfl, hii, HST, rfl⟩ := hrel
      by_cases hi : ii < ts.length
      · obtain ⟨b, o, t, rfl, _, hu, c0, c1, c2, c3⟩ := hr.get hi
        obtain ⟨k, p1, p2, p3, p4, p5, p6, p7⟩ := stage_tok HST.out hu
        have hi1 : (ii : Int) < (ts.length : Int) := by omega
        have HP7 := hide p7
        rw [p1] at c3
        clear p1 p7 hu
        have sl : ((s.extract k (k + (str t.tx).size)).toList == (str t.tx).toList) = true := by rw [p6]; simp
        have HP3 := hide p3
        have b2 : decide ((ii : Int) ≤ (ts.length : Int)) = true := decide_eq_true (by omega)
        have b2' : decide (ii ≤ ts.length) = true := decide_eq_true (by omega)
        clear p3 p6
        go_wp2_with fail
        have q1 : (((str t.tx).size : Int) == 0) = false := beq_eq_false_iff_ne.2 (by omega)
        have q2 : decide ((k : Int) < (ee : Int)) = false := decide_eq_false (by omega)
        have q2' : decide (k < ee) = false := decide_eq_false (by omega)
        obtain ⟨d, hd⟩ : ∃ d : Nat, d + (str t.tx).size = s.size := ⟨s.size - (str t.tx).size, by omega⟩
        have q3 : IntKind.i64.wrap ((s.size : Int) - ((str t.tx).size : Int)) = (d : Int) := by rw [IntWalk.i64_in _ (by omega)]; omega
        have q4 : decide ((d : Int) < (k : Int)) = false := decide_eq_false (by omega)
        have q4' : decide (d < k) = false := decide_eq_false (by omega)
        obtain ⟨z, hz⟩ : ∃ z : Nat, z = k + (str t.tx).size := ⟨_, rfl⟩
        have q5 : IntKind.i64.wrap ((k : Int) + ((str t.tx).size : Int)) = (z : Int) := by rw [IntWalk.i64_in _ (by omega)]; omega
        have q6 : z ≤ s.size := by omega
        have q7 : k ≤ z := by omega
        have q8 : (0 : Int) ≤ (z : Int) := by omega
        have q9 : (z : Int) ≤ (s.size : Int) := by omega
        have q10 : (k : Int) ≤ (z : Int) := by omega
        rw [← hz] at sl HP7
        have HD := hide hd
        have HZZ := hide hz
        clear hd hz
        go_quiet (fail)
        have e2 : (w1.drewN q).drewN nq = w1.drewN (q + nq) := World.drewN_drewN _ _ _
        rw [e2]
        generalize hw2 : w1.drewN (q + nq) = w2
        have hc1 : w2.cell? ⟨b, o + ii * 4 + 1, none⟩ = some (.string (str t.tx)) := by rw [← hw2]; exact c1
        have HW := hide hw2
        clear c0 c1 c2 c3 hw2 e2
        go_wp2_with fail
        have HLE : ee ≤ k := p2
        have HGAP : Hid (skipN false (s.data.toList.drop ee) = k - ee) := HP3
        have hks0 : k ≤ s.size := by omega
        clear q1 q2 q2' q3 q4 q4' q5 sl
        go_loop [2, 10, 11] (fun _ r j => Gap s k r j) (fun _ _ j => k - (intOf j).toNat)
        case atStart => exact ⟨false, ee, rfl, rfl, HLE, HGAP⟩
        case round =>
          obtain ⟨st, kk, rfl, rfl, hkk, HG⟩ := hrel
          by_cases hkt : kk < k
          · have hks : kk < s.size := by omega
            rcases gap_step HG.out hkt (by omega) with ⟨h10, g1⟩ | ⟨h10, rfl, g1⟩ | ⟨rfl, hb, g1⟩ | ⟨rfl, h45, ⟨hk1, hn45⟩, g1⟩
            · have G1 := hide g1
              have m1 : ((((s[kk]'hks).toNat : Nat) : Int) == 10) = true := beq_iff_eq.2 (by omega)
              have m2 : ((((s[kk]'hks).toNat : Nat) : Int) == 45) = false := beq_eq_false_iff_ne.2 (by omega)
              have m3 : ((((s[kk]'hks).toNat : Nat) : Int) != 32) = true := bne_iff_ne.2 (by omega)
              have m4 : ((((s[kk]'hks).toNat : Nat) : Int) != 9) = true := bne_iff_ne.2 (by omega)
              have m5 : ((((s[kk]'hks).toNat : Nat) : Int) != 10) = false := by rw [bne_eq_false_iff_eq]; omega
              clear g1 h10
              by_cases hk1 : kk + 1 < k
              · go_wp2_with fail
                all_goals
                  go_round
                  case rel => first | exact ⟨false, kk + 1, rfl, by go_num, by omega, G1⟩ | exact ⟨_, _, _, ⟨false, kk + 1, rfl, rfl, by omega, G1⟩, rfl, rfl, by go_num⟩
                  case measure => simp [intOf]; omega
              · go_wp2_with fail
                all_goals
                  go_round
                  case rel => first | exact ⟨false, kk + 1, rfl, by go_num, by omega, G1⟩ | exact ⟨_, _, _, ⟨false, kk + 1, rfl, rfl, by omega, G1⟩, rfl, rfl, by go_num⟩
                  case measure => simp [intOf]; omega
            · have G1 := hide g1
              have m1 : ((((s[kk]'hks).toNat : Nat) : Int) == 10) = false := beq_eq_false_iff_ne.2 (by omega)
              clear g1 h10
              go_wp2_with fail
              all_goals
                go_round
                case rel => first | exact ⟨true, kk + 1, rfl, by go_num, by omega, G1⟩ | exact ⟨_, _, _, ⟨true, kk + 1, rfl, rfl, by omega, G1⟩, rfl, rfl, by go_num⟩
                case measure => simp [intOf]; omega
            · have G1 := hide g1
              have m1 : ((((s[kk]'hks).toNat : Nat) : Int) == 10) = false := beq_eq_false_iff_ne.2 (by omega)
              have m2 : ((((s[kk]'hks).toNat : Nat) : Int) == 45) = false := beq_eq_false_iff_ne.2 (by omega)
              clear g1
              rcases hb with hb | hb | hb
              · have m3 : ((((s[kk]'hks).toNat : Nat) : Int) != 32) = false := by rw [bne_eq_false_iff_eq]; omega
                clear hb
                by_cases hk1 : kk + 1 < k
                · go_wp2_with fail
                  all_goals
                    go_round
                    case rel => first | exact ⟨false, kk + 1, rfl, by go_num, by omega, G1⟩ | exact ⟨_, _, _, ⟨false, kk + 1, rfl, rfl, by omega, G1⟩, rfl, rfl, by go_num⟩
                    case measure => simp [intOf]; omega
                · go_wp2_with fail
                  all_goals
                    go_round
                    case rel => first | exact ⟨false, kk + 1, rfl, by go_num, by omega, G1⟩ | exact ⟨_, _, _, ⟨false, kk + 1, rfl, rfl, by omega, G1⟩, rfl, rfl, by go_num⟩
                    case measure => simp [intOf]; omega
              · have m3 : ((((s[kk]'hks).toNat : Nat) : Int) != 32) = true := bne_iff_ne.2 (by omega)
                have m4 : ((((s[kk]'hks).toNat : Nat) : Int) != 9) = false := by rw [bne_eq_false_iff_eq]; omega
                clear hb
                by_cases hk1 : kk + 1 < k
                · go_wp2_with fail
                  all_goals
                    go_round
                    case rel => first | exact ⟨false, kk + 1, rfl, by go_num, by omega, G1⟩ | exact ⟨_, _, _, ⟨false, kk + 1, rfl, rfl, by omega, G1⟩, rfl, rfl, by go_num⟩
                    case measure => simp [intOf]; omega
                · go_wp2_with fail
                  all_goals
                    go_round
                    case rel => first | exact ⟨false, kk + 1, rfl, by go_num, by omega, G1⟩ | exact ⟨_, _, _, ⟨false, kk + 1, rfl, rfl, by omega, G1⟩, rfl, rfl, by go_num⟩
                    case measure => simp [intOf]; omega
              · have m3 : ((((s[kk]'hks).toNat : Nat) : Int) != 32) = true := bne_iff_ne.2 (by omega)
                have m4 : ((((s[kk]'hks).toNat : Nat) : Int) != 9) = true := bne_iff_ne.2 (by omega)
                have m5 : ((((s[kk]'hks).toNat : Nat) : Int) != 10) = true := bne_iff_ne.2 (by omega)
                have m6 : ((((s[kk]'hks).toNat : Nat) : Int) != 13) = false := by rw [bne_eq_false_iff_eq]; omega
                clear hb
                by_cases hk1 : kk + 1 < k
                · go_wp2_with fail
                  all_goals
                    go_round
                    case rel => first | exact ⟨false, kk + 1, rfl, by go_num, by omega, G1⟩ | exact ⟨_, _, _, ⟨false, kk + 1, rfl, rfl, by omega, G1⟩, rfl, rfl, by go_num⟩
                    case measure => simp [intOf]; omega
                · go_wp2_with fail
                  all_goals
                    go_round
                    case rel => first | exact ⟨false, kk + 1, rfl, by go_num, by omega, G1⟩ | exact ⟨_, _, _, ⟨false, kk + 1, rfl, rfl, by omega, G1⟩, rfl, rfl, by go_num⟩
                    case measure => simp [intOf]; omega
            · have G1 := hide g1
              have hks1 : kk + 1 < s.size := by omega
              have m1 : ((((s[kk]'hks).toNat : Nat) : Int) == 10) = false := beq_eq_false_iff_ne.2 (by omega)
              have m2 : ((((s[kk]'hks).toNat : Nat) : Int) == 45) = true := beq_iff_eq.2 (by omega)
              have m3 : (((s[kk + 1]'hks1).toNat : Int) == 45) = true := beq_iff_eq.2 (by omega)
              clear g1 h45 hn45
              go_wp2_with fail
              all_goals
                go_round
                case rel => first | exact ⟨true, kk + 1, rfl, by go_num, by omega, G1⟩ | exact ⟨_, _, _, ⟨true, kk + 1, rfl, rfl, by omega, G1⟩, rfl, rfl, by go_num⟩
                case measure => simp [intOf]; omega
          · obtain rfl : kk = k := by omega
            clear HG HGAP HP3
            go_wp2_with fail
            go_roundw
            case rel => exact ⟨z, ii + 1, q + nq, by rw [HZZ.out]; go_num, by go_num, by omega, HP7, HW.out.symm⟩
            case measure => simp [intOf]; omega
      · by_cases hl : ii = ts.length
        · obtain rfl := hl
          have hl := stage_last HST.out
          have HLE : ee ≤ s.size := hl.1
          have HGAP : Hid (skipN false (s.data.toList.drop ee) = s.size - ee) := hide hl.2
          have HP7 : Hid (Stage s ts ee (ts.length + 1)) := hide fun h => absurd h (by omega)
          have b2' : decide (ts.length ≤ ts.length) = true := decide_eq_true (Nat.le_refl _)
          have b2 : decide ((ts.length : Int) ≤ (ts.length : Int)) = true := decide_eq_true (Int.le_refl _)
          have b3 : decide ((ts.length : Int) < (ts.length : Int)) = false := decide_eq_false (by omega)
          clear hl
          generalize hw2 : w1.drewN q = w2
          have HW := hide hw2
          clear hw2
          go_wp2_with fail
          go_loop [2, 10, 11] (fun _ r j => Gap s s.size r j) (fun _ _ j => s.size - (intOf j).toNat)
          case atStart => exact ⟨false, ee, rfl, rfl, HLE, HGAP⟩
          case round =>
            obtain ⟨st, kk, rfl, rfl, hkk, HG⟩ := hrel
            by_cases hkt : kk < s.size
            · have hks : kk < s.size := by omega
              rcases gap_step HG.out hkt (by omega) with ⟨h10, g1⟩ | ⟨h10, rfl, g1⟩ | ⟨rfl, hb, g1⟩ | ⟨rfl, h45, ⟨hk1, hn45⟩, g1⟩
              · have G1 := hide g1
                have m1 : ((((s[kk]'hks).toNat : Nat) : Int) == 10) = true := beq_iff_eq.2 (by omega)
                have m2 : ((((s[kk]'hks).toNat : Nat) : Int) == 45) = false := beq_eq_false_iff_ne.2 (by omega)
                have m3 : ((((s[kk]'hks).toNat : Nat) : Int) != 32) = true := bne_iff_ne.2 (by omega)
                have m4 : ((((s[kk]'hks).toNat : Nat) : Int) != 9) = true := bne_iff_ne.2 (by omega)
                have m5 : ((((s[kk]'hks).toNat : Nat) : Int) != 10) = false := by rw [bne_eq_false_iff_eq]; omega
                clear g1 h10
                by_cases hk1 : kk + 1 < s.size
                · go_wp2_with fail
                  all_goals
                    go_round
                    case rel => first | exact ⟨false, kk + 1, rfl, by go_num, by omega, G1⟩ | exact ⟨_, _, _, ⟨false, kk + 1, rfl, rfl, by omega, G1⟩, rfl, rfl, by go_num⟩
                    case measure => simp [intOf]; omega
                · go_wp2_with fail
                  all_goals
                    go_round
                    case rel => first | exact ⟨false, kk + 1, rfl, by go_num, by omega, G1⟩ | exact ⟨_, _, _, ⟨false, kk + 1, rfl, rfl, by omega, G1⟩, rfl, rfl, by go_num⟩
                    case measure => simp [intOf]; omega
              · have G1 := hide g1
                have m1 : ((((s[kk]'hks).toNat : Nat) : Int) == 10) = false := beq_eq_false_iff_ne.2 (by omega)
                clear g1 h10
                go_wp2_with fail
                all_goals
                  go_round
                  case rel => first | exact ⟨true, kk + 1, rfl, by go_num, by omega, G1⟩ | exact ⟨_, _, _, ⟨true, kk + 1, rfl, rfl, by omega, G1⟩, rfl, rfl, by go_num⟩
                  case measure => simp [intOf]; omega
              · have G1 := hide g1
                have m1 : ((((s[kk]'hks).toNat : Nat) : Int) == 10) = false := beq_eq_false_iff_ne.2 (by omega)
                have m2 : ((((s[kk]'hks).toNat : Nat) : Int) == 45) = false := beq_eq_false_iff_ne.2 (by omega)
                clear g1
                rcases hb with hb | hb | hb
                · have m3 : ((((s[kk]'hks).toNat : Nat) : Int) != 32) = false := by rw [bne_eq_false_iff_eq]; omega
                  clear hb
                  by_cases hk1 : kk + 1 < s.size
                  · go_wp2_with fail
                    all_goals
                      go_round
                      case rel => first | exact ⟨false, kk + 1, rfl, by go_num, by omega, G1⟩ | exact ⟨_, _, _, ⟨false, kk + 1, rfl, rfl, by omega, G1⟩, rfl, rfl, by go_num⟩
                      case measure => simp [intOf]; omega
                  · go_wp2_with fail
                    all_goals
                      go_round
                      case rel => first | exact ⟨false, kk + 1, rfl, by go_num, by omega, G1⟩ | exact ⟨_, _, _, ⟨false, kk + 1, rfl, rfl, by omega, G1⟩, rfl, rfl, by go_num⟩
                      case measure => simp [intOf]; omega
                · have m3 : ((((s[kk]'hks).toNat : Nat) : Int) != 32) = true := bne_iff_ne.2 (by omega)
                  have m4 : ((((s[kk]'hks).toNat : Nat) : Int) != 9) = false := by rw [bne_eq_false_iff_eq]; omega
                  clear hb
                  by_cases hk1 : kk + 1 < s.size
                  · go_wp2_with fail
                    all_goals
                      go_round
                      case rel => first | exact ⟨false, kk + 1, rfl, by go_num, by omega, G1⟩ | exact ⟨_, _, _, ⟨false, kk + 1, rfl, rfl, by omega, G1⟩, rfl, rfl, by go_num⟩
                      case measure => simp [intOf]; omega
                  · go_wp2_with fail
                    all_goals
                      go_round
                      case rel => first | exact ⟨false, kk + 1, rfl, by go_num, by omega, G1⟩ | exact ⟨_, _, _, ⟨false, kk + 1, rfl, rfl, by omega, G1⟩, rfl, rfl, by go_num⟩
                      case measure => simp [intOf]; omega
                · have m3 : ((((s[kk]'hks).toNat : Nat) : Int) != 32) = true := bne_iff_ne.2 (by omega)
                  have m4 : ((((s[kk]'hks).toNat : Nat) : Int) != 9) = true := bne_iff_ne.2 (by omega)
                  have m5 : ((((s[kk]'hks).toNat : Nat) : Int) != 10) = true := bne_iff_ne.2 (by omega)
                  have m6 : ((((s[kk]'hks).toNat : Nat) : Int) != 13) = false := by rw [bne_eq_false_iff_eq]; omega
                  clear hb
                  by_cases hk1 : kk + 1 < s.size
                  · go_wp2_with fail
                    all_goals
                      go_round
                      case rel => first | exact ⟨false, kk + 1, rfl, by go_num, by omega, G1⟩ | exact ⟨_, _, _, ⟨false, kk + 1, rfl, rfl, by omega, G1⟩, rfl, rfl, by go_num⟩
                      case measure => simp [intOf]; omega
                  · go_wp2_with fail
                    all_goals
                      go_round
                      case rel => first | exact ⟨false, kk + 1, rfl, by go_num, by omega, G1⟩ | exact ⟨_, _, _, ⟨false, kk + 1, rfl, rfl, by omega, G1⟩, rfl, rfl, by go_num⟩
                      case measure => simp [intOf]; omega
              · have G1 := hide g1
                have hks1 : kk + 1 < s.size := by omega
                have m1 : ((((s[kk]'hks).toNat : Nat) : Int) == 10) = false := beq_eq_false_iff_ne.2 (by omega)
                have m2 : ((((s[kk]'hks).toNat : Nat) : Int) == 45) = true := beq_iff_eq.2 (by omega)
                have m3 : (((s[kk + 1]'hks1).toNat : Int) == 45) = true := beq_iff_eq.2 (by omega)
                clear g1 h45 hn45
                go_wp2_with fail
                all_goals
                  go_round
                  case rel => first | exact ⟨true, kk + 1, rfl, by go_num, by omega, G1⟩ | exact ⟨_, _, _, ⟨true, kk + 1, rfl, rfl, by omega, G1⟩, rfl, rfl, by go_num⟩
                  case measure => simp [intOf]; omega
            · obtain rfl : kk = s.size := by omega
              clear HG HGAP
              go_wp2_with fail
              go_roundw
              case rel => exact ⟨ee, ts.length + 1, q, rfl, by go_num, by omega, HP7, HW.out.symm⟩
              case measure => simp [intOf]
        · have b2' : decide (ii ≤ ts.length) = false := decide_eq_false (by omega)
          have b2 : decide ((ii : Int) ≤ (ts.length : Int)) = false := decide_eq_false (by omega)
          have he2 : Env (w1.drewN q) := he1.keep (below_draws (Below.refl _ _) q)
          have hb2 := below_draws b1 q
          go_wp2_with fail
          refine (lknown_any _ he2).mono ?_
          rintro e w3 ⟨rfl, b3⟩
          go_wp2
          go_ret
          exact ⟨rfl, hb2.trans (b3.mono hb2.size)⟩
  · have hlt := hpl.2 h0
    have h0' : (er != 0) = true := by simpa using h0
    have HQ := hide hq
    clear hq hpl h0
    go_enter Tryd.func6, Tryd.ntmps6
    go_wp2_with fail
    refine (Scan_parts s HZ.out w he HQ).mono ?_
    rintro e w1 ⟨A, n, c, rfl, hr, b1⟩
    have he1 := he.keep b1
    clear he
    go_wp2_with fail
    refine (lknown_any w1 he1).mono ?_
    rintro e w2 ⟨rfl, b2⟩
    go_wp2
    go_ret
    exact ⟨rfl, b1.trans (b2.mono b1.size)⟩
end Go.Proofs.YtbcgofmhplgfbaaDoor
