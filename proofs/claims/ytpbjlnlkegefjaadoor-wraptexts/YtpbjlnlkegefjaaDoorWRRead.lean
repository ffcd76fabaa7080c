/-
  Contract of the document's own Read: it gives the number whose numeral the text is, or none.
-/
import Derived.Test.YtpbjlnlkegefjaaDoorWRead
namespace Go.Proofs.YtpbjlnlkegefjaaDoor
open Go.RowKit
set_option maxHeartbeats 400000

/-- What the loop gathers of a text. -/
def gath (s : ByteArray) (j : Nat) : Nat := gather 0 (s.data.toList.take j)
theorem gath_le (s : ByteArray) {j : Nat} (h : j ≤ 11) : gath s j ≤ 99999999999 := by
  have h1 := gather_lt (s.data.toList.take j) 0 0 (by decide)
  have h2 : (s.data.toList.take j).length ≤ 11 := Nat.le_trans (List.length_take_le _ _) h
  have h3 : 10 ^ (0 + (s.data.toList.take j).length) ≤ 10 ^ 11 := Nat.pow_le_pow_right (by decide) (by omega)
  unfold gath
  omega
theorem gath_step (s : ByteArray) {j : Nat} (h : j < s.size) : gath s (j + 1) = if 48 ≤ s[j].toNat ∧ s[j].toNat ≤ 57 then 10 * gath s j + (s[j].toNat - 48) else gath s j := by
  unfold gath
  rw [List.take_succ_eq_append_getElem (by simpa using h), gather_append]
  rfl
theorem gath_end (s : ByteArray) {j : Nat} (h : s.size ≤ j ∨ j = 11) (h11 : j ≤ 11) : gath s j = gath s 11 := by
  rcases h with h | rfl
  · unfold gath
    have hl : s.data.toList.length = s.size := by simp
    rw [List.take_of_length_le (by omega), List.take_of_length_le (by omega)]
  · rfl
theorem eq_bytes {l : List UInt8} {s : ByteArray} (h : (⟨l.toArray⟩ : ByteArray) = s) : (l == s.toList) = true := by
  rw [← h, ByteArray.toList_mk]; simp
/-- The first byte is a minus. -/
def minus (s : ByteArray) : Bool := s.data.toList.head? == some 45
theorem minus_at {s : ByteArray} (h : 0 < s.size) : minus s = (((s[0].toNat : Int)) == 45) := by
  obtain ⟨⟨l⟩⟩ := s
  cases l with
  | nil => exact absurd h (by decide)
  | cons c r =>
    show ((some c : Option UInt8) == some 45) = (((c.toNat : Int)) == 45)
    rw [Bool.eq_iff_iff]
    simp
    constructor
    · intro e; rw [e]; rfl
    · intro e; exact UInt8.toNat.inj (by show c.toNat = 45; omega)
theorem minus_nil {s : ByteArray} (h : s.size = 0) : minus s = false := by
  obtain ⟨⟨l⟩⟩ := s
  cases l with
  | nil => rfl
  | cons c r => exact absurd h (by simp [ByteArray.size])
/-- The number that the text would be. -/
def numV (s : ByteArray) : Int := if minus s then wrap32 (-(gath s 11 : Int)) else wrap32 (gath s 11)
theorem wrap32_bd (n : Int) : -2147483648 ≤ wrap32 n ∧ wrap32 n ≤ 2147483647 := by unfold wrap32; omega
theorem numV_bd (s : ByteArray) : -2147483648 ≤ numV s ∧ numV s ≤ 2147483647 := by
  unfold numV
  split
  · exact wrap32_bd _
  · exact wrap32_bd _
theorem numV_m {s : ByteArray} (h : minus s = true) : numV s = wrap32 (-(gath s 11 : Int)) := if_pos h
theorem numV_p {s : ByteArray} (h : minus s = false) : numV s = wrap32 (gath s 11) := if_neg (by simp [h])

/-- The result where the text is that number's numeral, and where it is none. -/
def Read1 (s : ByteArray) (r : Int) (b : Bool) : Prop := (gath s 11 ≤ 2147483648 ∧ (⟨(Lib.itoa (numV s)).toArray⟩ : ByteArray) = s ∧ r = numV s ∧ b = true) ∨ ((2147483648 < gath s 11 ∨ (⟨(Lib.itoa (numV s)).toArray⟩ : ByteArray) ≠ s) ∧ r = 0 ∧ b = false)
def ReadPost (s : ByteArray) (w : World) (e : Ending) (w' : World) : Prop := ∃ r b, e = .returned (.tuple #[.int .i32 r, .bool b]) ∧ Read1 s r b ∧ Below w.heap.size w w'

theorem rread_any (s : ByteArray) (hs : s.size ≤ 1000) (w : World) : Calls Tryd.prog 21 #[.string s] w (ReadPost s w) := by
  go_enter Tryd.func21, Tryd.ntmps21
  go_wp2
  go_loop [4, 5] (fun n i => ∃ j : Nat, j ≤ 11 ∧ j ≤ s.size ∧ i = .int .i64 j ∧ n = .int .i64 (gath s j)) (fun _ i => 11 - (intOf i).toNat)
  case atStart => exact ⟨0, by omega, by omega, rfl, rfl⟩
  case round =>
    obtain ⟨j, h11, hsz, rfl, rfl⟩ := hrel
    have g1 := gath_le s h11
    by_cases hgo : j < s.size ∧ j < 11
    · obtain ⟨hlt, hj⟩ := hgo
      have hst := Lib.hid (gath_step s hlt)
      by_cases hdig : 48 ≤ s[j].toNat ∧ s[j].toNat ≤ 57
      · obtain ⟨d1, d2⟩ := hdig
        have HS : Hid (gath s (j + 1) = 10 * gath s j + (s[j].toNat - 48)) := by rw [hst.out, if_pos ⟨d1, d2⟩]; rfl
        clear hst
        go_wp2
        go_round
        case rel => exact ⟨j + 1, by omega, by omega, by go_num, by rw [HS.out]; go_num⟩
        case measure => simp [intOf]; omega
      · have HS : Hid (gath s (j + 1) = gath s j) := by rw [hst.out, if_neg hdig]; rfl
        clear hst
        go_wp2
        all_goals
          go_round
          case rel => exact ⟨j + 1, by omega, by omega, by go_num, by rw [HS.out]⟩
          case measure => simp [intOf]; omega
    have HE := Lib.hid (gath_end s (j := j) (by omega) h11)
    have hway : (¬ j < s.size) ∨ (j < s.size ∧ ¬ j < 11) := by omega
    clear hgo
    by_cases hbig : 2147483648 < gath s j
    · rcases hway with h | ⟨h, h'⟩
      all_goals
        go_wp2
        go_ret2
        exact ⟨0, false, rfl, .inr ⟨.inl (by rw [← HE.out]; exact hbig), rfl, rfl⟩, Below.refl _ _⟩
    have hsm : gath s j ≤ 2147483648 := by omega
    clear hbig
    by_cases h0 : s.size = 0
    · have hway' : ¬ j < s.size := by omega
      have HN := Lib.hid (numV_p (minus_nil h0))
      obtain ⟨b1, b2⟩ := wrap32_bd (gath s j)
      by_cases heq : (⟨(Lib.itoa (wrap32 (gath s j))).toArray⟩ : ByteArray) = s
      · have hb := eq_bytes heq
        have HQ := Lib.hid heq
        clear heq hway
        go_wp2_with (first
          | (go_at_call 17; refine (low_any _ _).mono ?_; rintro e w' ⟨rfl, rfl⟩)
          | (go_at_call 23; refine (rdigits_any _ _ b1 b2).mono ?_; rintro e w' ⟨rfl, hbl⟩))
        go_ret2
        have hv : wrap32 (gath s j) = numV s := by rw [HN.out, HE.out]
        exact ⟨_, true, rfl, .inl ⟨by rw [← HE.out]; exact hsm, by rw [← hv]; exact HQ.out, hv, rfl⟩, hbl⟩
      · have hb := ne_bytes heq
        have HQ := Lib.hid heq
        clear heq hway
        go_wp2_with (first
          | (go_at_call 17; refine (low_any _ _).mono ?_; rintro e w' ⟨rfl, rfl⟩)
          | (go_at_call 23; refine (rdigits_any _ _ b1 b2).mono ?_; rintro e w' ⟨rfl, hbl⟩))
        go_ret2
        have hv : wrap32 (gath s j) = numV s := by rw [HN.out, HE.out]
        exact ⟨_, false, rfl, .inr ⟨.inr (by rw [← hv]; exact HQ.out), rfl, rfl⟩, hbl⟩
    have hpos : 0 < s.size := by omega
    have HM := Lib.hid (minus_at hpos)
    rcases hm : (((s[0].toNat : Int)) == 45)
    · have HN := Lib.hid (numV_p (HM.out.trans hm))
      obtain ⟨b1, b2⟩ := wrap32_bd (gath s j)
      by_cases heq : (⟨(Lib.itoa (wrap32 (gath s j))).toArray⟩ : ByteArray) = s
      · have hb := eq_bytes heq
        have HQ := Lib.hid heq
        clear heq
        rcases hway with h | ⟨h, h'⟩
        all_goals
          go_wp2_with (first
            | (go_at_call 17; refine (low_any _ _).mono ?_; rintro e w' ⟨rfl, rfl⟩)
            | (go_at_call 23; refine (rdigits_any _ _ b1 b2).mono ?_; rintro e w' ⟨rfl, hbl⟩))
          go_ret2
          have hv : wrap32 (gath s j) = numV s := by rw [HN.out, HE.out]
          exact ⟨_, true, rfl, .inl ⟨by rw [← HE.out]; exact hsm, by rw [← hv]; exact HQ.out, hv, rfl⟩, hbl⟩
      · have hb := ne_bytes heq
        have HQ := Lib.hid heq
        clear heq
        rcases hway with h | ⟨h, h'⟩
        all_goals
          go_wp2_with (first
            | (go_at_call 17; refine (low_any _ _).mono ?_; rintro e w' ⟨rfl, rfl⟩)
            | (go_at_call 23; refine (rdigits_any _ _ b1 b2).mono ?_; rintro e w' ⟨rfl, hbl⟩))
          go_ret2
          have hv : wrap32 (gath s j) = numV s := by rw [HN.out, HE.out]
          exact ⟨_, false, rfl, .inr ⟨.inr (by rw [← hv]; exact HQ.out), rfl, rfl⟩, hbl⟩
    · have HN := Lib.hid (numV_m (HM.out.trans hm))
      obtain ⟨b1, b2⟩ := wrap32_bd (-(gath s j : Int))
      by_cases heq : (⟨(Lib.itoa (wrap32 (-(gath s j : Int)))).toArray⟩ : ByteArray) = s
      · have hb := eq_bytes heq
        have HQ := Lib.hid heq
        clear heq
        rcases hway with h | ⟨h, h'⟩
        all_goals
          go_wp2_with (first
            | (go_at_call 17; refine (low_any _ _).mono ?_; rintro e w' ⟨rfl, rfl⟩)
            | (go_at_call 23; refine (rdigits_any _ _ b1 b2).mono ?_; rintro e w' ⟨rfl, hbl⟩))
          go_ret2
          have hv : wrap32 (-(gath s j : Int)) = numV s := by rw [HN.out, HE.out]
          exact ⟨_, true, rfl, .inl ⟨by rw [← HE.out]; exact hsm, by rw [← hv]; exact HQ.out, hv, rfl⟩, hbl⟩
      · have hb := ne_bytes heq
        have HQ := Lib.hid heq
        clear heq
        rcases hway with h | ⟨h, h'⟩
        all_goals
          go_wp2_with (first
            | (go_at_call 17; refine (low_any _ _).mono ?_; rintro e w' ⟨rfl, rfl⟩)
            | (go_at_call 23; refine (rdigits_any _ _ b1 b2).mono ?_; rintro e w' ⟨rfl, hbl⟩))
          go_ret2
          have hv : wrap32 (-(gath s j : Int)) = numV s := by rw [HN.out, HE.out]
          exact ⟨_, false, rfl, .inr ⟨.inr (by rw [← hv]; exact HQ.out), rfl, rfl⟩, hbl⟩
end Go.Proofs.YtpbjlnlkegefjaaDoor
