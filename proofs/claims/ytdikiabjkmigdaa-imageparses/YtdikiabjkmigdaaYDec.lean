/-
  Plain mathematics of reading on: a place and a fault, behind the first fault nothing is read. No program stands in this file.
-/
import Derived.Test.YtdikiabjkmigdaaYMath
namespace Go.Proofs.Ytdikiabjkmigdaa
set_option maxRecDepth 20000
open Go.RowKit

/-- A number is read: place and fault behind it, and its value. -/
def nxt (l : List UInt8) (s : Int × Int) (k : Nat) : Int × Int := (if s.2 = 0 then s.1 + k else s.1, if s.2 = 0 then getE l.length s.1 (k : Int) else s.2)
def val (l : List UInt8) (s : Int × Int) (k : Nat) : Nat := if s.2 = 0 then getN l s.1 (k : Int) else 0
/-- A run is read. -/
def nxr (l : List UInt8) (s : Int × Int) : Int × Int := (if s.2 = 0 then grT l s.1 else s.1, if s.2 = 0 then grE l s.1 else s.2)
def valr (l : List UInt8) (s : Int × Int) : List UInt8 := if s.2 = 0 then grL l s.1 else []
theorem nxt_zero {l : List UInt8} {s : Int × Int} {k : Nat} (h : (nxt l s k).2 = 0) : s.2 = 0 ∧ getE l.length s.1 (k : Int) = 0 ∧ (nxt l s k).1 = s.1 + k ∧ val l s k = getN l s.1 (k : Int) := by
  by_cases h0 : s.2 = 0
  · simp only [nxt, if_pos h0] at h
    exact ⟨h0, h, if_pos h0, if_pos h0⟩
  · simp only [nxt, if_neg h0] at h
    exact absurd h h0
theorem nxt_go {l : List UInt8} {s : Int × Int} {k : Nat} (h0 : s.2 = 0) (h : getE l.length s.1 (k : Int) = 0) : nxt l s k = (s.1 + k, 0) := by
  unfold nxt; rw [if_pos h0, if_pos h0, h]
theorem nxr_zero {l : List UInt8} {s : Int × Int} (h : (nxr l s).2 = 0) : s.2 = 0 ∧ grE l s.1 = 0 ∧ (nxr l s).1 = grT l s.1 ∧ valr l s = grL l s.1 := by
  by_cases h0 : s.2 = 0
  · simp only [nxr, if_pos h0] at h
    exact ⟨h0, h, if_pos h0, if_pos h0⟩
  · simp only [nxr, if_neg h0] at h
    exact absurd h h0
theorem nxr_go {l : List UInt8} {s : Int × Int} (h0 : s.2 = 0) (h : grE l s.1 = 0) : nxr l s = (grT l s.1, 0) := by
  unfold nxr; rw [if_pos h0, if_pos h0, h]
theorem nxt_bd {l : List UInt8} {s : Int × Int} {k : Nat} {a : Int} (h : 0 ≤ s.1 ∧ s.1 ≤ a) : 0 ≤ (nxt l s k).1 ∧ (nxt l s k).1 ≤ a + k := by
  unfold nxt; simp only; split <;> omega
theorem nxr_bd {l : List UInt8} {s : Int × Int} {a : Int} (h : 0 ≤ s.1 ∧ s.1 ≤ a) (hl : (l.length : Int) ≤ a) : 0 ≤ (nxr l s).1 ∧ (nxr l s).1 ≤ a := by
  unfold nxr; simp only; split
  · unfold grT
    split
    · rename_i h1
      unfold grE at h1
      split at h1
      · split at h1
        · rename_i h3; omega
        · omega
      · omega
    · omega
  · exact h
theorem val_lt (l : List UInt8) (s : Int × Int) (k : Nat) : val l s k < 256 ^ k := by
  unfold val
  split
  · unfold getN
    split
    · refine Nat.lt_of_lt_of_le (leN_lt _) (Nat.pow_le_pow_right (by omega) ?_)
      rw [List.length_take, Int.toNat_natCast]; omega
    · exact Nat.pow_pos (by omega)
  · exact Nat.pow_pos (by omega)
theorem valr_len (l : List UInt8) (s : Int × Int) : (valr l s).length ≤ l.length := by
  unfold valr; split
  · exact grL_len l _
  · exact Nat.zero_le _
theorem getE_lit {b : List UInt8} {a k : Nat} (hk : 1 ≤ k ∧ k ≤ 8) (h : a + k ≤ b.length) : getE b.length (a : Int) (k : Int) = 0 := by
  have hw : widB (k : Int) = true := decide_eq_true (by omega)
  unfold getE; rw [if_pos ⟨hw, by omega, by omega⟩, if_pos (by omega)]
theorem getE_in {b : List UInt8} {a k : Nat} (h : getE b.length (a : Int) (k : Int) = 0) : a + k ≤ b.length := by
  unfold getE at h
  split at h
  · split at h
    · omega
    · omega
  · omega
def d0 : Int × Int := (4, 0)
def d1 (b : List UInt8) := nxt b d0 4
def d2 (b : List UInt8) := nxt b (d1 b) 4
def d3 (b : List UInt8) := nxt b (d2 b) 1
def d4 (b : List UInt8) := nxt b (d3 b) 1
def d5 (b : List UInt8) := nxt b (d4 b) 1
def d6 (b : List UInt8) := nxt b (d5 b) 1
def d7 (b : List UInt8) := nxt b (d6 b) 1
def d8 (b : List UInt8) := nxt b (d7 b) 2
def d9 (b : List UInt8) := nxt b (d8 b) 2
def r1 (b : List UInt8) := nxr b (d9 b)
def r2 (b : List UInt8) := nxr b (r1 b)
def r3 (b : List UInt8) := nxr b (r2 b)
/-- The bytes have the form but for their codes. -/
structure Frm0 (b : List UInt8) : Prop where
  len : 21 ≤ b.length
  r1 : grE b 21 = 0
  r2 : grE b (grT b 21) = 0
  r3 : grE b (grT b (grT b 21)) = 0
  r4 : grT b (grT b (grT b 21)) = b.length
  four : (grL b 21).length % 4 = 0
theorem frm_of {b : List UInt8} (h : Frm0 b) (hh : b.take 4 = mids) (h2 : (decA (grL b (grT b 21))).2.1 = 0) (h3 : (decA (grL b (grT b (grT b 21)))).2.1 = 0) : Frm b :=
  ⟨hh, h.len, h.r1, h.r2, h.r3, h.r4, h.four, h2, h3⟩
theorem Frm.zero {b : List UInt8} (h : Frm b) : Frm0 b := ⟨h.len, h.r1, h.r2, h.r3, h.r4, h.four⟩
/-- What reading on tells, where no fault is met. -/
theorem dec_zero {b : List UInt8} (h : (r3 b).2 = 0) : 21 ≤ b.length ∧ grE b 21 = 0 ∧ grE b (grT b 21) = 0 ∧ grE b (grT b (grT b 21)) = 0 ∧ (r3 b).1 = grT b (grT b (grT b 21)) ∧
    val b d0 4 = getN b 4 4 ∧ val b (d1 b) 4 = getN b 8 4 ∧ val b (d2 b) 1 = getN b 12 1 ∧ val b (d3 b) 1 = getN b 13 1 ∧ val b (d4 b) 1 = getN b 14 1 ∧ val b (d5 b) 1 = getN b 15 1 ∧ val b (d6 b) 1 = getN b 16 1 ∧ val b (d7 b) 2 = getN b 17 2 ∧ val b (d8 b) 2 = getN b 19 2 ∧
    valr b (d9 b) = grL b 21 ∧ valr b (r1 b) = grL b (grT b 21) ∧ valr b (r2 b) = grL b (grT b (grT b 21)) := by
  obtain ⟨e3, g3, p3, v3⟩ := nxr_zero (s := r2 b) h
  obtain ⟨e2, g2, p2, v2⟩ := nxr_zero (s := r1 b) e3
  obtain ⟨e1, g1, p1, v1⟩ := nxr_zero (s := d9 b) e2
  obtain ⟨f9, h9, q9, u9⟩ := nxt_zero (s := d8 b) e1
  obtain ⟨f8, h8, q8, u8⟩ := nxt_zero (s := d7 b) f9
  obtain ⟨f7, h7, q7, u7⟩ := nxt_zero (s := d6 b) f8
  obtain ⟨f6, h6, q6, u6⟩ := nxt_zero (s := d5 b) f7
  obtain ⟨f5, h5, q5, u5⟩ := nxt_zero (s := d4 b) f6
  obtain ⟨f4, h4, q4, u4⟩ := nxt_zero (s := d3 b) f5
  obtain ⟨f3, h3, q3, u3⟩ := nxt_zero (s := d2 b) f4
  obtain ⟨f2, h2, q2, u2⟩ := nxt_zero (s := d1 b) f3
  obtain ⟨f1, h1, q1, u1⟩ := nxt_zero (s := d0) f2
  have a1 : (d1 b).1 = 8 := q1
  have a2 : (d2 b).1 = 12 := by rw [show (d2 b).1 = (d1 b).1 + (4 : Nat) from q2, a1]; rfl
  have a3 : (d3 b).1 = 13 := by rw [show (d3 b).1 = (d2 b).1 + (1 : Nat) from q3, a2]; rfl
  have a4 : (d4 b).1 = 14 := by rw [show (d4 b).1 = (d3 b).1 + (1 : Nat) from q4, a3]; rfl
  have a5 : (d5 b).1 = 15 := by rw [show (d5 b).1 = (d4 b).1 + (1 : Nat) from q5, a4]; rfl
  have a6 : (d6 b).1 = 16 := by rw [show (d6 b).1 = (d5 b).1 + (1 : Nat) from q6, a5]; rfl
  have a7 : (d7 b).1 = 17 := by rw [show (d7 b).1 = (d6 b).1 + (1 : Nat) from q7, a6]; rfl
  have a8 : (d8 b).1 = 19 := by rw [show (d8 b).1 = (d7 b).1 + (2 : Nat) from q8, a7]; rfl
  have a9 : (d9 b).1 = 21 := by rw [show (d9 b).1 = (d8 b).1 + (2 : Nat) from q9, a8]; rfl
  have b1 : (r1 b).1 = grT b 21 := by rw [← a9]; exact p1
  have b2 : (r2 b).1 = grT b (grT b 21) := by rw [← b1]; exact p2
  rw [a8] at h9 u9
  rw [a7] at u8
  rw [a6] at u7
  rw [a5] at u6
  rw [a4] at u5
  rw [a3] at u4
  rw [a2] at u3
  rw [a1] at u2
  rw [a9] at g1 v1
  rw [b1] at g2 v2
  rw [b2] at g3 v3
  exact ⟨getE_in (a := 19) (k := 2) h9, g1, g2, g3, by rw [← b2]; exact p3, u1, u2, u3, u4, u5, u6, u7, u8, u9, v1, v2, v3⟩
theorem dec_form {b : List UInt8} (h : Frm0 b) : r3 b = ((b.length : Int), 0) := by
  have hl := h.len
  have a1 : d1 b = (8, 0) := nxt_go (s := d0) rfl (getE_lit (a := 4) (k := 4) (by omega) (by omega))
  have a2 : d2 b = (12, 0) := by unfold d2; rw [a1]; exact nxt_go rfl (getE_lit (a := 8) (k := 4) (by omega) (by omega))
  have a3 : d3 b = (13, 0) := by unfold d3; rw [a2]; exact nxt_go rfl (getE_lit (a := 12) (k := 1) (by omega) (by omega))
  have a4 : d4 b = (14, 0) := by unfold d4; rw [a3]; exact nxt_go rfl (getE_lit (a := 13) (k := 1) (by omega) (by omega))
  have a5 : d5 b = (15, 0) := by unfold d5; rw [a4]; exact nxt_go rfl (getE_lit (a := 14) (k := 1) (by omega) (by omega))
  have a6 : d6 b = (16, 0) := by unfold d6; rw [a5]; exact nxt_go rfl (getE_lit (a := 15) (k := 1) (by omega) (by omega))
  have a7 : d7 b = (17, 0) := by unfold d7; rw [a6]; exact nxt_go rfl (getE_lit (a := 16) (k := 1) (by omega) (by omega))
  have a8 : d8 b = (19, 0) := by unfold d8; rw [a7]; exact nxt_go rfl (getE_lit (a := 17) (k := 2) (by omega) (by omega))
  have a9 : d9 b = (21, 0) := by unfold d9; rw [a8]; exact nxt_go rfl (getE_lit (a := 19) (k := 2) (by omega) (by omega))
  have b1 : r1 b = (grT b 21, 0) := by unfold r1; rw [a9]; exact nxr_go rfl h.r1
  have b2 : r2 b = (grT b (grT b 21), 0) := by unfold r2; rw [b1]; exact nxr_go rfl h.r2
  unfold r3; rw [b2, nxr_go rfl h.r3, h.r4]
/-- Just then the bytes have the form but for their codes. -/
theorem frm0_iff (b : List UInt8) : Frm0 b ↔ (r3 b).2 = 0 ∧ (r3 b).1 = b.length ∧ (valr b (d9 b)).length % 4 = 0 := by
  constructor
  · intro h
    have e := dec_form h
    have e2 : (r3 b).2 = 0 := by rw [e]
    obtain ⟨_, _, _, _, _, _, _, _, _, _, _, _, _, _, v1, _, _⟩ := dec_zero e2
    exact ⟨e2, by rw [e], by rw [v1]; exact h.four⟩
  · rintro ⟨h1, h2, h3⟩
    obtain ⟨hl, g1, g2, g3, p, _, _, _, _, _, _, _, _, _, v1, _, _⟩ := dec_zero h1
    exact ⟨hl, g1, g2, g3, by rw [← p]; exact h2, by rw [← v1]; exact h3⟩

end Go.Proofs.Ytdikiabjkmigdaa
