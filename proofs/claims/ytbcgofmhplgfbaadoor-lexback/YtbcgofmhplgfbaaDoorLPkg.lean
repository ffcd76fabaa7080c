/-
  Contracts of package lex: which runes fit, and how many bytes the runes have that fit at a text's beginning.
-/
import Derived.Test.YtbcgofmhplgfbaaDoorLMem
import Derived.Laws.RangeAny
namespace Go.Proofs.YtbcgofmhplgfbaaDoor
open Go.RowKit
set_option maxHeartbeats 400000

def rLet (r : Int) : Bool := decide (97 ≤ r ∧ r ≤ 122)
def rDig (r : Int) : Bool := decide (48 ≤ r ∧ r ≤ 57)
def rInW (r : Int) : Bool := decide ((97 ≤ r ∧ r ≤ 122) ∨ (48 ≤ r ∧ r ≤ 57) ∨ r = 95)
def rBlk (r : Int) : Bool := decide (r = 32 ∨ r = 9 ∨ r = 10 ∨ r = 13)
def rLin (r : Int) : Bool := decide (r ≠ 10)
theorem ret_b {a b : Bool} (h : a = b) : Ending.returned (.bool a) = .returned (.bool b) := by rw [h]

theorem isLetter_any (r : Int) (w : World) : Calls Tryd.prog 20 #[.int .i32 r] w fun e w' => e = .returned (.bool (rLet r)) ∧ w = w' := by
  by_cases h1 : 97 ≤ r
  · by_cases h2 : r ≤ 122
    · go_enter Tryd.func20, Tryd.ntmps20
      go_wp2
      go_ret
      exact ⟨ret_b (by simp [rLet, h1, h2]), rfl⟩
    · go_enter Tryd.func20, Tryd.ntmps20
      go_wp2
      go_ret
      exact ⟨ret_b (by simp [rLet, h2]), rfl⟩
  · go_enter Tryd.func20, Tryd.ntmps20
    go_wp2
    go_ret
    exact ⟨ret_b (by simp [rLet]; omega), rfl⟩
theorem isDigit_any (r : Int) (w : World) : Calls Tryd.prog 31 #[.int .i32 r] w fun e w' => e = .returned (.bool (rDig r)) ∧ w = w' := by
  by_cases h1 : 48 ≤ r
  · by_cases h2 : r ≤ 57
    · go_enter Tryd.func31, Tryd.ntmps31
      go_wp2
      go_ret
      exact ⟨ret_b (by simp [rDig, h1, h2]), rfl⟩
    · go_enter Tryd.func31, Tryd.ntmps31
      go_wp2
      go_ret
      exact ⟨ret_b (by simp [rDig, h2]), rfl⟩
  · go_enter Tryd.func31, Tryd.ntmps31
    go_wp2
    go_ret
    exact ⟨ret_b (by simp [rDig]; omega), rfl⟩
theorem inLine_any (r : Int) (w : World) : Calls Tryd.prog 36 #[.int .i32 r] w fun e w' => e = .returned (.bool (rLin r)) ∧ w = w' := by
  go_enter Tryd.func36, Tryd.ntmps36
  go_wp2
  go_ret
  exact ⟨ret_b (by simp [rLin]; rfl), rfl⟩
theorem isBlank_any (r : Int) (w : World) : Calls Tryd.prog 34 #[.int .i32 r] w fun e w' => e = .returned (.bool (rBlk r)) ∧ w = w' := by
  rcases (show r = 32 ∨ r = 9 ∨ r = 10 ∨ r = 13 ∨ (r ≠ 32 ∧ r ≠ 9 ∧ r ≠ 10 ∧ r ≠ 13) by omega) with rfl | rfl | rfl | rfl | ⟨h1, h2, h3, h4⟩
  all_goals
    go_enter Tryd.func34, Tryd.ntmps34
    go_wp2
    go_ret
    exact ⟨ret_b (by simp [rBlk, *]), rfl⟩
theorem inWord_any (r : Int) (w : World) : Calls Tryd.prog 21 #[.int .i32 r] w fun e w' => e = .returned (.bool (rInW r)) ∧ w = w' := by
  rcases h1 : rLet r with _ | _
  · rcases h2 : rDig r with _ | _
    · have H1 := hide h1; have H2 := hide h2
      clear h1 h2
      go_enter Tryd.func21, Tryd.ntmps21
      go_wp2_with (first
        | (go_at_call 20; refine (isLetter_any _ _).mono ?_; rw [H1.out]; rintro e w' ⟨rfl, rfl⟩)
        | (go_at_call 31; refine (isDigit_any _ _).mono ?_; rw [H2.out]; rintro e w' ⟨rfl, rfl⟩))
      go_ret
      refine ⟨ret_b ?_, rfl⟩
      have := H1.out; have := H2.out
      rw [Bool.eq_iff_iff]; simp [rLet, rDig, rInW] at *; omega
    · have H1 := hide h1; have H2 := hide h2
      clear h1 h2
      go_enter Tryd.func21, Tryd.ntmps21
      go_wp2_with (first
        | (go_at_call 20; refine (isLetter_any _ _).mono ?_; rw [H1.out]; rintro e w' ⟨rfl, rfl⟩)
        | (go_at_call 31; refine (isDigit_any _ _).mono ?_; rw [H2.out]; rintro e w' ⟨rfl, rfl⟩))
      go_ret
      refine ⟨ret_b ?_, rfl⟩
      have := H1.out; have := H2.out
      rw [Bool.eq_iff_iff]; simp [rLet, rDig, rInW] at *; omega
  · have H1 := hide h1
    clear h1
    go_enter Tryd.func21, Tryd.ntmps21
    go_wp2_with (first
      | (go_at_call 20; refine (isLetter_any _ _).mono ?_; rw [H1.out]; rintro e w' ⟨rfl, rfl⟩))
    go_ret
    refine ⟨ret_b ?_, rfl⟩
    have := H1.out
    rw [Bool.eq_iff_iff]; simp [rLet, rInW] at *; omega

/-- A test of runes is a test of bytes: all runes of more bytes, and their bytes, answer alike. -/
structure Agr (p : UInt8 → Bool) (q : Int → Bool) (b : Bool) : Prop where
  low : ∀ c : UInt8, c.toNat < 128 → q c.toNat = p c
  hiB : ∀ c : UInt8, 128 ≤ c.toNat → p c = b
  hiR : ∀ r : Int, 128 ≤ r → q r = b
theorem agr_let : Agr isLet rLet false := ⟨fun c h => by rw [Bool.eq_iff_iff]; simp [isLet, rLet]; omega, fun c h => by simp [isLet]; omega, fun r h => by simp [rLet]; omega⟩
theorem agr_dig : Agr isDig rDig false := ⟨fun c h => by rw [Bool.eq_iff_iff]; simp [isDig, rDig]; omega, fun c h => by simp [isDig]; omega, fun r h => by simp [rDig]; omega⟩
theorem agr_inW : Agr inW rInW false := ⟨fun c h => by rw [Bool.eq_iff_iff]; simp [inW, isLet, isDig, rInW]; omega, fun c h => by simp [inW, isLet, isDig]; omega, fun r h => by simp [rInW]; omega⟩
theorem agr_blk : Agr isBlk rBlk false := ⟨fun c h => by rw [Bool.eq_iff_iff]; simp [isBlk, rBlk]; omega, fun c h => by simp [isBlk]; omega, fun r h => by simp [rBlk]; omega⟩
theorem agr_lin : Agr inLin rLin true := ⟨fun c h => by rw [Bool.eq_iff_iff]; simp [inLin, rLin]; omega, fun c h => by simp [inLin]; omega, fun r h => by simp [rLin]; omega⟩
/-- The bytes of a rune of more than one. -/
theorem dec_bytes (s : ByteArray) (pos : Nat) (h : pos < s.size) (ha : 128 ≤ (s[pos]'h).toNat) : ∀ k, 0 < k → k < (Utf8.decode s pos).2 → pos + k < s.size ∧ 128 ≤ (s.get! (pos + k)).toNat := by
  have hn : ¬ (s[pos]'h).toNat < 128 := by omega
  intro k h0 hk
  simp only [Utf8.decode, get_at s pos h, hn, if_false] at hk
  have a1 : ∀ j, (decide (pos + j < s.size) && (s.get! (pos + j)).toNat / 64 == 2) = true → pos + j < s.size ∧ 128 ≤ (s.get! (pos + j)).toNat := by
    intro j hj
    simp at hj
    omega
  split at hk
  · rename_i hc
    simp only [Bool.and_eq_true] at hc
    split at hk
    · have : k = 1 := by simp at hk; omega
      subst this; exact a1 1 (by simp; simpa using hc.2)
    · simp at hk; omega
  · split at hk
    · rename_i hc
      simp only [Bool.and_eq_true] at hc
      split at hk
      · have : k = 1 ∨ k = 2 := by simp at hk; omega
        rcases this with rfl | rfl
        · exact a1 1 (by simp; simpa using hc.1.2)
        · exact a1 2 (by simp; simpa using hc.2)
      · simp at hk; omega
    · split at hk
      · rename_i hc
        simp only [Bool.and_eq_true] at hc
        split at hk
        · have : k = 1 ∨ k = 2 ∨ k = 3 := by simp at hk; omega
          rcases this with rfl | rfl | rfl
          · exact a1 1 (by simp; simpa using hc.1.1.2)
          · exact a1 2 (by simp; simpa using hc.1.2)
          · exact a1 3 (by simp; simpa using hc.2)
        · simp at hk; omega
      · simp at hk; omega
/-- Up to this place all fit. -/
def Fits (p : UInt8 → Bool) (s : ByteArray) (pos : Nat) : Prop := pos ≤ s.size ∧ ∀ j, j < pos → p (s.get! j) = true
theorem get_bang (s : ByteArray) (j : Nat) (h : j < s.size) : s.get! j = s[j]'h := by have := get_at s j h; simpa using this
theorem get_list (s : ByteArray) (j : Nat) (h : j < s.size) (h' : j < s.data.toList.length) : s.data.toList[j]'h' = s.get! j := by rw [get_bang s j h]; rfl
theorem fits_step {p : UInt8 → Bool} {q : Int → Bool} {b : Bool} (ag : Agr p q b) {s : ByteArray} {pos : Nat} (hf : Fits p s pos) (h : pos < s.size) (hq : q (Utf8.decode s pos).1 = true) : Fits p s (pos + (Utf8.decode s pos).2) ∧ 0 < (Utf8.decode s pos).2 := by
  by_cases ha : (s[pos]'h).toNat < 128
  · rw [decode_ascii s pos h ha] at hq ⊢
    refine ⟨⟨h, fun j hj => ?_⟩, by simp⟩
    by_cases e : j = pos
    · subst e; rw [get_bang s j h, ← ag.low _ ha]; exact hq
    · exact hf.2 j (by simp at hj; omega)
  · have hh := decode_high s pos h (by omega)
    have hb := dec_bytes s pos h (by omega)
    have hbt : b = true := (ag.hiR (Utf8.decode s pos).1 (by omega)).symm.trans hq
    refine ⟨⟨?_, fun j hj => ?_⟩, by omega⟩
    · by_cases e : (Utf8.decode s pos).2 = 1
      · omega
      · have := (hb ((Utf8.decode s pos).2 - 1) (by omega) (by omega)).1; omega
    · by_cases e : j < pos
      · exact hf.2 j e
      · by_cases e2 : j = pos
        · subst e2; rw [get_bang s j h, ag.hiB _ (by omega), hbt]
        · have := (hb (j - pos) (by omega) (by omega)).2
          rw [show pos + (j - pos) = j by omega] at this
          rw [ag.hiB _ this, hbt]
theorem fits_end {p : UInt8 → Bool} {s : ByteArray} {pos : Nat} (hf : Fits p s pos) (h : ¬ pos < s.size) : runL p s.data.toList = s.size := by
  have h1 := hf.1
  rw [← size_list]
  apply runL_all
  intro c hc
  obtain ⟨j, hj, rfl⟩ := List.getElem_of_mem hc
  rw [get_list s j (by simpa using hj)]
  exact hf.2 j (by rw [size_list] at hj; omega)
theorem fits_stop {p : UInt8 → Bool} {q : Int → Bool} {b : Bool} (ag : Agr p q b) {s : ByteArray} {pos : Nat} (hf : Fits p s pos) (h : pos < s.size) (hq : q (Utf8.decode s pos).1 = false) : runL p s.data.toList = pos := by
  apply runL_at (by rw [size_list]; exact hf.1)
  · intro j hj
    rw [get_list s j (by omega)]
    exact hf.2 j hj
  · intro hl
    rw [get_list s pos h, get_bang s pos h]
    by_cases ha : (s[pos]'h).toNat < 128
    · rw [decode_ascii s pos h ha] at hq
      rw [← ag.low _ ha]; exact hq
    · have hh := decode_high s pos h (by omega)
      rw [ag.hiB _ (by omega), ← ag.hiR _ (show 128 ≤ ((Utf8.decode s pos).1 : Int) by omega)]
      exact hq
end Go.Proofs.YtbcgofmhplgfbaaDoor
