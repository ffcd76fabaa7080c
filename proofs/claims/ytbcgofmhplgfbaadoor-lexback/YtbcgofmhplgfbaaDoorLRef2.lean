/-
  Contracts of the document's own answers of layer 12: Name, Text, Same.
-/
import Derived.Test.YtbcgofmhplgfbaaDoorLRef
namespace Go.Proofs.YtbcgofmhplgfbaaDoor
open Go.RowKit
set_option maxHeartbeats 1000000

theorem head_let {s : ByteArray} (h : 0 < s.size) : 0 < runL isLet s.data.toList ↔ isLet (s[0]'h) = true := by
  obtain ⟨⟨l⟩⟩ := s
  cases l with
  | nil => exact absurd h (by decide)
  | cons c r => exact runL_pos
theorem rName_any (s : ByteArray) (hs : s.size ≤ maxLen) (w : World) : Calls Tryd.prog 13 #[.string s] w (TellsB w (isName s.data.toList)) := by
  unfold maxLen at hs
  have hsz := size_list s
  by_cases h0 : 0 < s.size
  · by_cases h1 : s.size ≤ 16
    · rcases h2 : isLet (s[0]'h0)
      · have h2' : ¬ 0 < runL isLet s.data.toList := by rw [head_let h0, h2]; simp
        have E : Hid (isName s.data.toList = false) := hide (by unfold isName; simp [h2'])
        have H2 := hide h2
        clear hsz h2 h2'
        go_enter Tryd.func13, Tryd.ntmps13
        go_wp2_with (go_at_call 23; refine (rletter_any _ _).mono ?_; rw [H2.out]; rintro e w' ⟨rfl, rfl⟩)
        go_ret
        exact ⟨ret_b E.out.symm, Below.refl _ _⟩
      · have h2' : 0 < runL isLet s.data.toList := (head_let h0).2 h2
        by_cases h3 : runL inW s.data.toList = s.size
        · have d3 : ((runL inW s.data.toList : Int) == (s.size : Int)) = true := by simp [h3]
          have d3' : (runL inW s.data.toList == s.size) = true := by simp [h3]
          obtain ⟨r, hr⟩ : ∃ r, isWord s.data.toList = r := ⟨_, rfl⟩
          have E : Hid (isName s.data.toList = !r) := hide (by unfold isName; rw [hsz, hr]; simp [h1, h2', h3])
          have HR := hide hr
          have H2 := hide h2
          clear hsz h2 h2' h3 hr
          go_enter Tryd.func13, Tryd.ntmps13
          go_wp2_with (first
            | (go_at_call 23; refine (rletter_any _ _).mono ?_; rw [H2.out]; rintro e w' ⟨rfl, rfl⟩)
            | (go_at_call 24; refine (rrun_any _ (by unfold maxLen; omega) _).mono ?_; rintro e w' ⟨rfl, rfl⟩)
            | (go_at_call 12; refine (rWord_any _ _).mono ?_; rw [HR.out]; rintro e w' ⟨rfl, b1⟩))
          go_ret
          exact ⟨ret_b E.out.symm, b1⟩
        · have d3 : ((runL inW s.data.toList : Int) == (s.size : Int)) = false := by simp; omega
          have d3' : (runL inW s.data.toList == s.size) = false := by simp [h3]
          have E : Hid (isName s.data.toList = false) := hide (by unfold isName; rw [hsz]; simp [h3])
          have H2 := hide h2
          clear hsz h2 h2' h3
          go_enter Tryd.func13, Tryd.ntmps13
          go_wp2_with (first
            | (go_at_call 23; refine (rletter_any _ _).mono ?_; rw [H2.out]; rintro e w' ⟨rfl, rfl⟩)
            | (go_at_call 24; refine (rrun_any _ (by unfold maxLen; omega) _).mono ?_; rintro e w' ⟨rfl, rfl⟩))
          go_ret
          exact ⟨ret_b E.out.symm, Below.refl _ _⟩
    · have E : Hid (isName s.data.toList = false) := hide (by unfold isName; rw [hsz]; simp [h1])
      clear hsz
      go_enter Tryd.func13, Tryd.ntmps13
      go_wp2
      go_ret
      exact ⟨ret_b E.out.symm, Below.refl _ _⟩
  · have hl : s.data.toList = [] := List.eq_nil_of_length_eq_zero (by omega)
    have E : Hid (isName s.data.toList = false) := hide (by rw [hl]; decide)
    clear hsz hl
    go_enter Tryd.func13, Tryd.ntmps13
    go_wp2
    go_ret
    exact ⟨ret_b E.out.symm, Below.refl _ _⟩
theorem str_app (a b : List UInt8) : str (a ++ b) = str a ++ str b := by
  apply ByteArray.ext
  simp [str]
theorem str_sp (a : List UInt8) : str (a ++ [32]) = str a ++ ⟨#[32]⟩ := str_app a [32]
theorem rText_any (B : Nat) (A : Option Addr) (n c : Nat) (l : List Tok) (w : World) (hr : RowT w B A n c l) (hsum : sumL l ≤ 1000000) :
    Calls Tryd.prog 16 #[.slice A n c] w fun e w' => e = .returned (.string (str (textL l))) ∧ w = w' := by
  have hn := hr.len
  subst hn
  have hcap := hr.cap
  have hmx := hr.max
  unfold maxLen at hmx
  go_enter Tryd.func16, Tryd.ntmps16
  go_wp2_with fail
  go_loop [3, 4] (fun s i => ∃ j : Nat, i = .int .i64 (j : Int) ∧ j ≤ l.length ∧ s = .string (str (textL (l.take j)))) (fun _ i => l.length - (intOf i).toNat)
  case atStart => exact ⟨0, rfl, Nat.zero_le _, rfl⟩
  case round =>
    obtain ⟨j, rfl, hj, rfl⟩ := hrel
    by_cases hlt : j < l.length
    · obtain ⟨b, o, t, rfl, _, hu, c0, c1, c2, c3⟩ := hr.get hlt
      by_cases h0 : 0 < j
      · have hs := text_step hu h0
        have HS := hide hs
        have a1 := str_size (textL (l.take j))
        have a2 := str_size t.tx
        have a3 := str_size (textL (l.take j) ++ [32])
        rw [List.length_append, List.length_singleton] at a3
        have hz1 : ¬ 9223372036854775807 < (str (textL (l.take j))).size + (⟨#[32]⟩ : ByteArray).size := by show ¬ _ < _ + 1; omega
        have hz2 : ¬ 9223372036854775807 < (str (textL (l.take j)) ++ ⟨#[32]⟩).size + (str t.tx).size := by rw [← str_sp]; omega
        clear hu hs a1 a2 a3
        go_wp2_with fail
        go_round
        case rel => exact ⟨j + 1, by go_num, by omega, by rw [HS.out.1, str_app, str_sp]⟩
        case measure => simp [intOf]; omega
      · obtain rfl : j = 0 := by omega
        have HS := hide (text_first hu)
        rw [Nat.zero_mul, Nat.add_zero] at c0 c1 c2 c3
        have a2 := str_size t.tx
        have hl2 := HS.out.2
        have hz2 : ¬ 9223372036854775807 < (str (textL (l.take 0))).size + (str t.tx).size := by rw [str_size, List.take_zero]; show ¬ _ < 0 + _; omega
        clear hu a2
        go_wp2_with fail
        go_round
        case rel => exact ⟨1, rfl, by omega, by rw [show textL (l.take 1) = textL (l.take 0) ++ t.tx by rw [HS.out.1]; simp [textL], str_app, List.take_zero]⟩
        case measure => simp [intOf]; omega
    · obtain rfl : j = l.length := by omega
      go_wp2_with fail
      go_ret
      exact ⟨rfl, rfl⟩
theorem shape_get {a b : List Tok} {j : Nat} {t u : Tok} (h : a.map shape = b.map shape) (h1 : a[j]? = some t) (h2 : b[j]? = some u) : t.kd = u.kd ∧ t.tx = u.tx ∧ t.nv = u.nv := by
  have := congrArg (fun x => x[j]?) h
  simp only [List.getElem?_map, h1, h2, Option.map_some, Option.some.injEq, shape, Prod.mk.injEq] at this
  exact this
theorem below_draws {B : Nat} {a w : World} (h : Below B a w) (k : Nat) : Below B a (w.drewN k) := h.trans ⟨rfl, rfl, rfl, Nat.le_refl _, fun _ _ => rfl⟩
/-- A truth, and some draws. -/
def Drew (b : Bool) (w : World) (e : Ending) (w' : World) : Prop := ∃ k, e = .returned (.bool b) ∧ w' = w.drewN k
theorem rSame_any (B B' : Nat) (A A' : Option Addr) (n n' c c' : Nat) (l l' : List Tok) (w : World) (hr : RowT w B A n c l) (hr' : RowT w B' A' n' c' l') (hsh : l.map shape = l'.map shape) :
    Calls Tryd.prog 18 #[.slice A n c, .slice A' n' c', .bool false] w (Drew true w) := by
  obtain rfl : n' = n := by
    have h1 := hr.len; have h2 := hr'.len
    have := congrArg List.length hsh
    rw [List.length_map, List.length_map] at this
    omega
  have hn := hr.len
  subst hn
  have hm := hr.max
  have hcap := hr.cap
  unfold maxLen at hm
  have HSH := hide hsh
  clear hsh
  go_enter Tryd.func18, Tryd.ntmps18
  go_wp2
  go_loopw [7] (fun i wr => ∃ j k : Nat, j ≤ l.length ∧ i = .int .i64 (j : Int) ∧ wr = w.drewN k) (fun i _ => l.length - (intOf i).toNat)
  case atStart => exact ⟨0, 0, Nat.zero_le _, rfl, rfl⟩
  case round =>
    obtain ⟨j, k, hj, rfl, rfl⟩ := hrel
    by_cases hlt : j < l.length
    · obtain ⟨b, o, t, rfl, _, hu, c0, c1, c2, c3⟩ := hr.get hlt
      obtain ⟨b', o', t', rfl, _, hu', d0, d1, d2, d3⟩ := hr'.get hlt
      obtain ⟨e1, e2, e3⟩ := shape_get HSH.out hu hu'
      rw [← e1] at d0
      rw [← e2] at d1
      rw [← e3] at d2
      have hi1 : (j : Int) < (l.length : Int) := by omega
      clear hu hu' hr hr' e1 e2 e3
      go_wp2
      go_quiet (fail)
      go_wp2
      go_roundw
      case rel => exact ⟨j + 1, k + nq, by omega, by go_num, by first | rfl | exact World.drewN_drewN⟩
      case measure => simp [intOf]; omega
    · obtain rfl : j = l.length := by omega
      go_wp2
      go_ret
      exact ⟨k, rfl, rfl⟩
end Go.Proofs.YtbcgofmhplgfbaaDoor
