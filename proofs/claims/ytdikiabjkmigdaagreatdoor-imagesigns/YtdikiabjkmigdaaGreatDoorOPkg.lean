/-
  Contracts of package octet: Put, Get, PutRun, GetRun.
-/
import Derived.Test.YtdikiabjkmigdaaGreatDoorOLow
namespace Go.Proofs.YtdikiabjkmigdaaGreatDoor
set_option maxRecDepth 20000
open Go.RowKit
set_option maxHeartbeats 400000

/-- New bytes and an error's number. -/
def Gives (w : World) (r : List UInt8) (er : Int) (e : Ending) (w' : World) : Prop :=
  ∃ A n c, e = .returned (.tuple #[.slice A n c, .int .i64 er]) ∧ w'.ownsRow w.heap.size 5 1 (.slice A n c) n (cs8 r) ∧ Below w.heap.size w w'
theorem Gives.none_ {w : World} {r : List UInt8} {er k : Int} (hr : r = []) (he : er = k) : Gives w r er (.returned (.tuple #[.slice none 0 0, .int .i64 k])) w := by
  subst hr; subst he
  exact ⟨none, 0, 0, rfl, World.ownsRow_nil _ _ _ _, Below.refl _ _⟩
theorem Gives.of {w w' : World} {r : List UInt8} {er k : Int} {m c : Nat} {A : Option Addr} (he : er = k) (ho : w'.ownsRow w.heap.size 5 1 (.slice A m c) m (cs8 r)) (hb : Below w.heap.size w w') :
    Gives w r er (.returned (.tuple #[.slice A m c, .int .i64 k])) w' := by
  subst he; exact ⟨A, m, c, rfl, ho, hb⟩
/-- New bytes, a place and an error's number. -/
def Gives3 (w : World) (r : List UInt8) (to er : Int) (e : Ending) (w' : World) : Prop :=
  ∃ A n c, e = .returned (.tuple #[.slice A n c, .int .i64 to, .int .i64 er]) ∧ w'.ownsRow w.heap.size 5 1 (.slice A n c) n (cs8 r) ∧ Below w.heap.size w w'
theorem Gives3.none_ {w : World} {r : List UInt8} {to er k : Int} (hr : r = []) (ht : to = 0) (he : er = k) : Gives3 w r to er (.returned (.tuple #[.slice none 0 0, .int .i64 0, .int .i64 k])) w := by
  subst hr; subst he; subst ht
  exact ⟨none, 0, 0, rfl, World.ownsRow_nil _ _ _ _, Below.refl _ _⟩

theorem Gives3.of {w w' : World} {r : List UInt8} {to er t k : Int} {m c : Nat} {A : Option Addr} (ht : to = t) (he : er = k) (ho : w'.ownsRow w.heap.size 5 1 (.slice A m c) m (cs8 r)) (hb : Below w.heap.size w w') :
    Gives3 w r to er (.returned (.tuple #[.slice A m c, .int .i64 t, .int .i64 k])) w' := by
  subst he; subst ht; exact ⟨A, m, c, rfl, ho, hb⟩

theorem wid_false {width : Int} (h : ¬ (1 ≤ width ∧ width ≤ 8)) : widB width = false := decide_eq_false h
theorem wid_nat {k : Nat} (h : 1 ≤ k ∧ k ≤ 8) : widB (k : Int) = true := decide_eq_true (by omega)
theorem putE_bad {width : Int} {v : Nat} (h : widB width = false) : putE width v = 1 := by unfold putE; rw [if_neg (by simp [h])]
theorem putE_nat {k v : Nat} (h : 1 ≤ k ∧ k ≤ 8) : putE (k : Int) v = if v < 256 ^ k then 0 else 3 := by unfold putE; rw [if_pos (wid_nat h)]; rfl
theorem putL_bad {l : List UInt8} {width : Int} {v : Nat} (h : putE width v ≠ 0) : putL l width v = [] := if_neg h
theorem putL_ok {l : List UInt8} {k v : Nat} (h : putE (k : Int) v = 0) : putL l (k : Int) v = l ++ leB k v := if_pos h
theorem shr_fits {k v : Nat} (h : v < 256 ^ k) : ((v : Int) / 2 ^ (8 * k) != 0) = false := by
  have e : (v : Int) / 2 ^ (8 * k) = ((v / 2 ^ (8 * k) : Nat) : Int) := by rw [Int.natCast_ediv, Int.natCast_pow]; rfl
  rw [e, Nat.div_eq_of_lt (by rwa [p256] at h)]; rfl
theorem shr_over {k v : Nat} (h : ¬ v < 256 ^ k) : ((v : Int) / 2 ^ (8 * k) != 0) = true := by
  have e : (v : Int) / 2 ^ (8 * k) = ((v / 2 ^ (8 * k) : Nat) : Int) := by rw [Int.natCast_ediv, Int.natCast_pow]; rfl
  rw [p256] at h
  have := Nat.div_pos (Nat.le_of_not_lt h) (Nat.pow_pos (n := 8 * k) (show 0 < 2 by omega))
  rw [e, bne_iff_ne]; omega

theorem Put_any (B : Nat) (A : Option Addr) (n c : Nat) (l : List UInt8) (width : Int) (v : Nat) (w : World) (hr : Row w B A n c (cs8 l)) (hB : B ≤ w.heap.size) (hl : n ≤ 1099511627776) :
    Calls Tryz.prog 37 #[.slice A n c, .int .i64 width, .int .u64 (v : Int)] w (Gives w (putL l width v) (putE width v)) := by
  by_cases hw : 1 ≤ width ∧ width ≤ 8
  · obtain ⟨k, rfl⟩ : ∃ k : Nat, width = (k : Int) := ⟨width.toNat, by omega⟩
    have hk : 1 ≤ k ∧ k ≤ 8 := by omega
    have hwb := wid_nat hk
    obtain ⟨hk1, hk8⟩ := hk
    clear hw
    have HP := hide (putE_nat (k := k) (v := v) ⟨hk1, hk8⟩)
    by_cases hf : v < 256 ^ k
    · have hs := shr_fits hf
      have HE := hide (show putE (k : Int) v = 0 by rw [HP.out, if_pos hf])
      have HF := hide hf
      clear hf HP
      go_enter Tryz.func37, Tryz.ntmps37
      go_wp2_with (first
        | (go_at_call 67; refine (isWidth_any _ _).mono ?_; rintro e w' ⟨rfl, rfl⟩)
        | (go_at_call 69; refine (grown_any B _ _ _ _ _ _ hr hB (by omega)).mono ?_; rintro e w1 ⟨A1, n1, c1, rfl, ho1, hb1⟩)
        | (go_at_call 68; refine (lay_any _ _ _ _ _ _ _ _ ho1 hb1.size hk8 (by have := hr.len; have := own8_len ho1; rw [cs8_len] at *; omega)).mono ?_; rintro e w2 ⟨A2, n2, c2, rfl, ho2, hb2⟩))
      go_ret2
      rw [putL_ok HE.out]
      exact Gives.of HE.out ho2 (hb1.trans hb2)
    · have hs := shr_over hf
      have HE := hide (show putE (k : Int) v = 3 by rw [HP.out, if_neg hf])
      clear hf HP
      go_enter Tryz.func37, Tryz.ntmps37
      go_wp2_with (go_at_call 67; refine (isWidth_any _ _).mono ?_; rintro e w' ⟨rfl, rfl⟩)
      go_ret2
      exact Gives.none_ (putL_bad (by rw [HE.out]; decide)) HE.out
  · have hwb := wid_false hw
    have HE := hide (putE_bad (v := v) hwb)
    go_enter Tryz.func37, Tryz.ntmps37
    go_wp2_with (go_at_call 67; refine (isWidth_any _ _).mono ?_; rintro e w' ⟨rfl, rfl⟩)
    go_ret2
    exact Gives.none_ (putL_bad (by rw [HE.out]; decide)) HE.out

-- Get
theorem getE_bad {n : Nat} {a width : Int} (h : ¬ (widB width = true ∧ 0 ≤ a ∧ a ≤ n)) : getE n a width = 1 := if_neg h
theorem getE_nat {n a k : Nat} (hk : 1 ≤ k ∧ k ≤ 8) (ha : a ≤ n) : getE n (a : Int) (k : Int) = if a + k ≤ n then 0 else 2 := by
  unfold getE; rw [if_pos ⟨wid_nat hk, by omega, by omega⟩]
  by_cases h : a + k ≤ n
  · rw [if_pos h, if_pos (by omega)]
  · rw [if_neg h, if_neg (by omega)]
theorem getN_bad {l : List UInt8} {a width : Int} (h : getE l.length a width ≠ 0) : getN l a width = 0 := if_neg h
theorem getN_ok {l : List UInt8} {a k : Nat} (h : getE l.length (a : Int) (k : Int) = 0) : getN l (a : Int) (k : Int) = leN ((l.drop a).take k) := if_pos h
theorem ret_get {a b : Int} {p q : Int} (h : a = b) (g : p = q) : Ending.returned (.tuple #[.int .u64 a, .int .i64 p]) = .returned (.tuple #[.int .u64 b, .int .i64 q]) := by rw [h, g]
theorem Get_any (B : Nat) (A : Option Addr) (n c : Nat) (l : List UInt8) (a width : Int) (w : World) (hr : Row w B A n c (cs8 l)) :
    Calls Tryz.prog 44 #[.slice A n c, .int .i64 a, .int .i64 width] w fun e w' => e = .returned (.tuple #[.int .u64 (getN l a width : Int), .int .i64 (getE l.length a width)]) ∧ w = w' := by
  have hn := hr.len
  rw [cs8_len] at hn
  subst hn
  have hm := hr.max
  have hcap := hr.cap
  unfold maxLen at hm
  by_cases hw : 1 ≤ width ∧ width ≤ 8
  · obtain ⟨k, rfl⟩ : ∃ k : Nat, width = (k : Int) := ⟨width.toNat, by omega⟩
    have hk : 1 ≤ k ∧ k ≤ 8 := by omega
    have hwb := wid_nat hk
    obtain ⟨hk1, hk8⟩ := hk
    clear hw
    by_cases ha0 : a < 0
    · have HE := hide (getE_bad (n := l.length) (a := a) (width := k) (fun h => by omega))
      have d0 : decide (a < 0) = true := by simpa using ha0
      go_enter Tryz.func44, Tryz.ntmps44
      go_wp2_with (go_at_call 67; refine (isWidth_any _ _).mono ?_; rintro e w' ⟨rfl, rfl⟩)
      go_ret2
      exact ⟨ret_get (by rw [getN_bad (by rw [HE.out]; decide)]; rfl) HE.out.symm, rfl⟩
    · have d0 : decide (a < 0) = false := by simpa using ha0
      by_cases ha1 : (l.length : Int) < a
      · have HE := hide (getE_bad (n := l.length) (a := a) (width := k) (fun h => by omega))
        go_enter Tryz.func44, Tryz.ntmps44
        go_wp2_with (go_at_call 67; refine (isWidth_any _ _).mono ?_; rintro e w' ⟨rfl, rfl⟩)
        go_ret2
        exact ⟨ret_get (by rw [getN_bad (by rw [HE.out]; decide)]; rfl) HE.out.symm, rfl⟩
      · obtain ⟨a, rfl⟩ : ∃ k : Nat, a = (k : Int) := ⟨a.toNat, by omega⟩
        have ha : a ≤ l.length := by omega
        clear ha0 ha1 d0
        have d0 : decide ((a : Int) < 0) = false := by simp
        have d1 : decide ((l.length : Int) < (a : Int)) = false := by simp; omega
        have HP := hide (getE_nat (n := l.length) ⟨hk1, hk8⟩ ha)
        by_cases hf : a + k ≤ l.length
        · have HE := hide (show getE l.length (a : Int) (k : Int) = 0 by rw [HP.out, if_pos hf])
          clear HP
          go_enter Tryz.func44, Tryz.ntmps44
          go_wp2_with (first
            | (go_at_call 67; refine (isWidth_any _ _).mono ?_; rintro e w' ⟨rfl, rfl⟩)
            | (go_at_call 74; refine (number_any B _ _ _ _ _ _ _ hr hk8 hf).mono ?_; rintro e w' ⟨rfl, rfl⟩))
          go_ret2
          exact ⟨ret_get (by rw [getN_ok HE.out]) HE.out.symm, rfl⟩
        · have HE := hide (show getE l.length (a : Int) (k : Int) = 2 by rw [HP.out, if_neg hf])
          clear HP
          go_enter Tryz.func44, Tryz.ntmps44
          go_wp2_with (go_at_call 67; refine (isWidth_any _ _).mono ?_; rintro e w' ⟨rfl, rfl⟩)
          go_ret2
          exact ⟨ret_get (by rw [getN_bad (by rw [HE.out]; decide)]; rfl) HE.out.symm, rfl⟩
  · have hwb := wid_false hw
    have HE := hide (getE_bad (n := l.length) (a := a) (width := width) (fun h => by rw [hwb] at h; cases h.1))
    go_enter Tryz.func44, Tryz.ntmps44
    go_wp2_with (go_at_call 67; refine (isWidth_any _ _).mono ?_; rintro e w' ⟨rfl, rfl⟩)
    go_ret2
    exact ⟨ret_get (by rw [getN_bad (by rw [HE.out]; decide)]; rfl) HE.out.symm, rfl⟩
-- PutRun
theorem prE_ok {x : List UInt8} (h : x.length ≤ 65535) : prE x = 0 := if_pos h
theorem prE_bad {x : List UInt8} (h : ¬ x.length ≤ 65535) : prE x = 3 := if_neg h
theorem prL_ok {b x : List UInt8} (h : x.length ≤ 65535) : prL b x = b ++ leB 2 x.length ++ x := if_pos h
theorem prL_bad {b x : List UInt8} (h : ¬ x.length ≤ 65535) : prL b x = [] := if_neg h
theorem PutRun_any (B : Nat) (A : Option Addr) (n c : Nat) (l : List UInt8) (A' : Option Addr) (n' c' : Nat) (x : List UInt8) (w : World) (hr : Row w B A n c (cs8 l)) (hx : Row w B A' n' c' (cs8 x)) (hB : B ≤ w.heap.size)
    (hl : n ≤ 1099511627776) : Calls Tryz.prog 39 #[.slice A n c, .slice A' n' c'] w (Gives w (prL l x) (prE x)) := by
  obtain ⟨i0, hi, hz0, hz1, hz2⟩ := info_parts info8
  have hn := hx.len
  rw [cs8_len] at hn
  subst hn
  have hn := hr.len
  rw [cs8_len] at hn
  subst hn
  have hm := hx.max
  have hcap := hx.cap
  unfold maxLen at hm
  by_cases hs : x.length ≤ 65535
  · have e2 : ((2 : Int)) = ((2 : Nat) : Int) := rfl
    clear e2
    go_enter Tryz.func39, Tryz.ntmps39
    go_wp2_with (first
      | (go_at_call 69; refine (grown_any B _ _ _ _ (2 + x.length) _ hr hB (by omega)).mono ?_; rintro e w1 ⟨A1, n1, c1, rfl, ho1, hb1⟩)
      | (go_at_call 68; refine (lay_any _ _ _ _ 2 x.length _ _ ho1 hb1.size (by omega) (by have := own8_len ho1; omega)).mono ?_; rintro e w2 ⟨A2, n2, c2, rfl, ho2, hb2⟩)
      | (at_builtin; (refine wpList_append_row rfl (.tmp 19) (.tmp 20) 29 rfl w.heap.size 5 i0 _ 1 Tryz.underlying29 hi hz0 hz1 hz2 rfl _ _ _ rfl ho2 B _ _ _ _ rfl (hx.keep (hb1.trans hb2) hB) (cs8_one x) (by have := own8_len ho2; simp [leB_len] at this; unfold maxLen; omega) (by have := own8_len ho2; simp [leB_len] at this; omega) w (hb1.trans hb2) (Nat.le_refl _) ?_); intro A3 c3 w3 ho3 hb3 hg3))
    go_ret2
    rw [prL_ok hs]
    exact Gives.of (prE_ok hs) (by rw [cs8_app]; exact ho3) hb3
  · have hd : decide ((65535 : Int) < (x.length : Int)) = true := by simp; omega
    go_enter Tryz.func39, Tryz.ntmps39
    go_wp2
    go_ret2
    exact Gives.none_ (prL_bad hs) (prE_bad hs)
end Go.Proofs.YtdikiabjkmigdaaGreatDoor
