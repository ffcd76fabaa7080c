/-
  Contracts of the reference of layer 2 (midstreamref02): Get, PutRun, GetRun.
-/
import Derived.Test.YtdikiabjkmigdaaGreatDoorORef
namespace Go.Proofs.YtdikiabjkmigdaaGreatDoor
set_option maxRecDepth 20000
open Go.RowKit
set_option maxHeartbeats 400000

theorem take_front (l : List UInt8) (a m k : Nat) (hm : m < k) (h : a + m < l.length) : (l.drop (a + m)).take (k - m) = l[a + m] :: (l.drop (a + (m + 1))).take (k - (m + 1)) := by
  rw [drop_step l (a + m) h, show k - m = (k - (m + 1)) + 1 by omega, List.take_succ_cons, Nat.add_assoc]
theorem leN_le7 (l : List UInt8) (h : l.length ≤ 7) : leN l ≤ 72057594037927935 := by
  have h1 := leN_lt l
  have h2 : (256 : Nat) ^ l.length ≤ 256 ^ 7 := Nat.pow_le_pow_right (by omega) h
  omega
theorem rGet_ok (B : Nat) (A : Option Addr) (n c : Nat) (l : List UInt8) (a k : Nat) (w : World) (hr : Row w B A n c (cs8 l)) (hk1 : 1 ≤ k) (hk8 : k ≤ 8) (hf : a + k ≤ n) :
    Calls Tryz.prog 96 #[.slice A n c, .int .i64 (a : Int), .int .i64 (k : Int)] w fun e w' => e = .returned (.tuple #[.int .u64 (leN ((l.drop a).take k) : Int), .int .i64 0]) ∧ w = w' := by
  have hn := hr.len
  rw [cs8_len] at hn
  subst hn
  have hm := hr.max
  have hcap := hr.cap
  unfold maxLen at hm
  have d1 : decide ((k : Int) < 1) = false := by simp; omega
  have d2 : decide ((8 : Int) < (k : Int)) = false := by simp; omega
  have d3 : decide ((a : Int) < 0) = false := by simp
  have d4 : decide ((l.length : Int) < (a : Int)) = false := by simp; omega
  go_enter Tryz.func96, Tryz.ntmps96
  go_wp2
  go_loop [8, 9] (fun s i => ∃ j x : Nat, j ≤ k ∧ i = .int .i64 ((j : Int) - 1) ∧ Hid (x = leN ((l.drop (a + j)).take (k - j))) ∧ s = .int .u64 (x : Int)) (fun _ i => (intOf i + 1).toNat)
  case atStart => exact ⟨k, 0, Nat.le_refl _, rfl, by show 0 = leN _; simp [leN], rfl⟩
  case round =>
    obtain ⟨j, x, hj, hi', HX, rfl⟩ := hrel
    rcases j with _ | m
    · obtain rfl : u9 = .int .i64 (-1) := by rw [hi']; rfl
      clear hi'
      go_wp2
      go_ret2
      exact ⟨ret_get (by rw [HX.out]; rfl) rfl, rfl⟩
    · obtain rfl : u9 = .int .i64 (m : Int) := by rw [hi']; go_num
      clear hi'
      have hx : a + m < l.length := by omega
      have hxb : x ≤ 72057594037927935 := by rw [HX.out]; exact leN_le7 _ (by simp; omega)
      obtain ⟨b, o, u, rfl, _, hu, hcell⟩ := hr.get hx
      rw [cs8_at hx] at hu
      obtain rfl := Option.some.inj hu
      have HE := hide (take_front l a m k (by omega) hx)
      have hc2 := l[a + m].toNat_lt
      clear hr hu
      go_wp2
      go_round
      case rel => exact ⟨m, l[a + m].toNat + 256 * x, by omega, rfl, by show _ = leN _; rw [HE.out, leN, HX.out], by go_num⟩
      case measure => simp [intOf]
theorem rGet_any (B : Nat) (A : Option Addr) (n c : Nat) (l : List UInt8) (a width : Int) (w : World) (hr : Row w B A n c (cs8 l)) :
    Calls Tryz.prog 96 #[.slice A n c, .int .i64 a, .int .i64 width] w fun e w' => e = .returned (.tuple #[.int .u64 (getN l a width : Int), .int .i64 (getE l.length a width)]) ∧ w = w' := by
  have hn := hr.len
  rw [cs8_len] at hn
  subst hn
  have hm := hr.max
  have hcap := hr.cap
  unfold maxLen at hm
  by_cases hw : 1 ≤ width ∧ width ≤ 8
  · obtain ⟨k, rfl⟩ : ∃ k : Nat, width = (k : Int) := ⟨width.toNat, by omega⟩
    have hk1 : 1 ≤ k := by omega
    have hk8 : k ≤ 8 := by omega
    clear hw
    by_cases ha0 : a < 0
    · have HE := hide (getE_bad (n := l.length) (a := a) (width := k) (fun h => by omega))
      have d0 : decide (a < 0) = true := by simpa using ha0
      have d1 : decide ((k : Int) < 1) = false := by simp; omega
      have d2 : decide ((8 : Int) < (k : Int)) = false := by simp; omega
      go_enter Tryz.func96, Tryz.ntmps96
      go_wp2
      go_ret2
      exact ⟨ret_get (by rw [getN_bad (by rw [HE.out]; decide)]; rfl) HE.out.symm, rfl⟩
    · have d0 : decide (a < 0) = false := by simpa using ha0
      by_cases ha1 : (l.length : Int) < a
      · have HE := hide (getE_bad (n := l.length) (a := a) (width := k) (fun h => by omega))
        have d1 : decide ((k : Int) < 1) = false := by simp; omega
        have d2 : decide ((8 : Int) < (k : Int)) = false := by simp; omega
        go_enter Tryz.func96, Tryz.ntmps96
        go_wp2
        go_ret2
        exact ⟨ret_get (by rw [getN_bad (by rw [HE.out]; decide)]; rfl) HE.out.symm, rfl⟩
      · obtain ⟨a, rfl⟩ : ∃ k : Nat, a = (k : Int) := ⟨a.toNat, by omega⟩
        have ha : a ≤ l.length := by omega
        clear ha0 ha1 d0
        have HP := hide (getE_nat (n := l.length) ⟨hk1, hk8⟩ ha)
        by_cases hf : a + k ≤ l.length
        · have HE := hide (show getE l.length (a : Int) (k : Int) = 0 by rw [HP.out, if_pos hf])
          refine (rGet_ok B A _ c l a k w hr hk1 hk8 hf).mono ?_
          rintro e w' ⟨rfl, rfl⟩
          exact ⟨ret_get (by rw [getN_ok HE.out]) HE.out.symm, rfl⟩
        · have HE := hide (show getE l.length (a : Int) (k : Int) = 2 by rw [HP.out, if_neg hf])
          clear HP
          have d0 : decide ((a : Int) < 0) = false := by simp
          have d1 : decide ((k : Int) < 1) = false := by simp; omega
          have d2 : decide ((8 : Int) < (k : Int)) = false := by simp; omega
          have d4 : decide ((l.length : Int) < (a : Int)) = false := by simp; omega
          go_enter Tryz.func96, Tryz.ntmps96
          go_wp2
          go_ret2
          exact ⟨ret_get (by rw [getN_bad (by rw [HE.out]; decide)]; rfl) HE.out.symm, rfl⟩
  · have hwb := wid_false hw
    have HE := hide (getE_bad (n := l.length) (a := a) (width := width) (fun h => by rw [hwb] at h; cases h.1))
    clear hwb
    by_cases h1 : width < 1
    · have d1 : decide (width < 1) = true := by simpa using h1
      go_enter Tryz.func96, Tryz.ntmps96
      go_wp2
      go_ret2
      exact ⟨ret_get (by rw [getN_bad (by rw [HE.out]; decide)]; rfl) HE.out.symm, rfl⟩
    · have d1 : decide (width < 1) = false := by simpa using h1
      have d2 : decide (8 < width) = true := by simp; omega
      go_enter Tryz.func96, Tryz.ntmps96
      go_wp2
      go_ret2
      exact ⟨ret_get (by rw [getN_bad (by rw [HE.out]; decide)]; rfl) HE.out.symm, rfl⟩

theorem rPutRun_any (B : Nat) (A : Option Addr) (n c : Nat) (l : List UInt8) (A' : Option Addr) (n' c' : Nat) (x : List UInt8) (w : World) (hr : Row w B A n c (cs8 l)) (hx : Row w B A' n' c' (cs8 x)) (hB : B ≤ w.heap.size)
    (hl : n ≤ 549755813888) : Calls Tryz.prog 91 #[.slice A n c, .slice A' n' c'] w (Gives w (prL l x) (prE x)) := by
  have hn := hx.len
  rw [cs8_len] at hn
  subst hn
  have hm := hx.max
  have hcap := hx.cap
  unfold maxLen at hm
  by_cases hs : x.length ≤ 65535
  · go_enter Tryz.func91, Tryz.ntmps91
    go_wp2_with fail
    refine (digits_any x.length 2 _ rfl _ (by omega) (by omega)).mono ?_
    rintro e w1 ⟨A1, n1, c1, y, rfl, HX, ho1, hb1⟩
    have hs1 := hb1.size
    have hn1 : n1 ≤ 8 := by have := own8_len ho1; rw [leB_len] at this; omega
    go_wp2_with fail
    refine (join_any w1.heap.size _ _ _ l _ _ _ (leB 2 x.length) _ ((hr.keep hb1 hB).more (Nat.le_trans hB hs1)) (Row.of_own ho1) (Nat.le_refl _) (by omega) (by omega)).mono ?_
    rintro e w2 ⟨A2, n2, c2, rfl, ho2, hb2⟩
    have hs2 := hb2.size
    have hn2 : n2 ≤ 549755813898 := by have h1 := own8_len ho2; have h2 := own8_len ho1; have h3 := hr.len; rw [List.length_append] at h1; rw [cs8_len] at h3; omega
    have hb12 : Below w.heap.size w w2 := hb1.trans (hb2.mono hs1)
    go_wp2_with fail
    refine (join_any w2.heap.size _ _ _ (l ++ leB 2 x.length) _ _ _ x _ (Row.of_own ho2) ((hx.keep hb12 hB).more (by omega)) (Nat.le_refl _) (by omega) (by omega)).mono ?_
    rintro e w3 ⟨A3, n3, c3, rfl, ho3, hb3⟩
    go_wp2
    go_ret2
    rw [prL_ok hs]
    exact Gives.of (prE_ok hs) (own_base (by omega) ho3) (hb12.trans (hb3.mono (by omega)))
  · have hd : decide ((65535 : Int) < (x.length : Int)) = true := by simp; omega
    go_enter Tryz.func91, Tryz.ntmps91
    go_wp2
    go_ret2
    exact Gives.none_ (prL_bad hs) (prE_bad hs)
end Go.Proofs.YtdikiabjkmigdaaGreatDoor
