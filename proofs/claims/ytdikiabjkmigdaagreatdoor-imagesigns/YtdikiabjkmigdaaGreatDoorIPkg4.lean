/-
  Contracts: Encode and Decode, of package isa and of the reference.
-/
import Derived.Test.YtdikiabjkmigdaaGreatDoorIRef
namespace Go.Proofs.YtdikiabjkmigdaaGreatDoor
set_option maxRecDepth 20000
open Go.RowKit
set_option maxHeartbeats 1000000

theorem enc_step {l : List (Int × Int)} {j : Nat} {y x : Int} (h : l[j]? = some (y, x)) (hb : badE (l.take j) = 0) (hg : rgtE y x = 0) : badE (l.take (j + 1)) = 0 ∧ allB (l.take (j + 1)) = allB (l.take j) ++ insB y x := by
  obtain ⟨hj, he⟩ := List.getElem?_eq_some_iff.1 h
  have h1 := badE_take hj hb
  have h2 := allB_take hj
  rw [he] at h1 h2
  exact ⟨h1.1.trans hg, h2⟩
theorem enc_stop {l : List (Int × Int)} {j : Nat} {y x : Int} (h : l[j]? = some (y, x)) (h6 : ¬ 600 < l.length) (hb : badE (l.take j) = 0) (hg : rgtE y x ≠ 0) : encE l = rgtE y x := by
  obtain ⟨hj, he⟩ := List.getElem?_eq_some_iff.1 h
  have h1 := (badE_take hj hb).2
  rw [he] at h1
  rw [encE_small h6]
  exact h1 hg
theorem enc_end {l : List (Int × Int)} (h6 : ¬ 600 < l.length) (hb : badE l = 0) : encE l = 0 ∧ encL l = allB l := by
  have := (encE_small h6).trans hb
  exact ⟨this, encL_ok this⟩
theorem take_len_le (l : List (Int × Int)) (j : Nat) (h : j ≤ 600) : (allB (l.take j)).length ≤ 3000 := by
  have := allB_len_le (l.take j)
  rw [List.length_take] at this
  omega
theorem Encode_any (B : Nat) (A : Option Addr) (n c : Nat) (l : List (Int × Int)) (w : World) (hr : RowI w B A n c l) (hB : B ≤ w.heap.size) :
    Calls Tryz.prog 41 #[.slice A n c] w (Gives w (encL l) (encE l)) := by
  obtain ⟨i0, hi, hz0, hz1, hz2⟩ := info_parts info8
  have hn := hr.len
  have hcap := hr.cap
  have hmx := hr.max
  unfold maxLen at hmx
  by_cases h6 : 600 < l.length
  · have hd : decide ((600 : Int) < (n : Int)) = true := by simp; omega
    have H := hide (encE_big h6)
    clear hn h6
    go_enter Tryz.func41, Tryz.ntmps41
    go_wp2
    go_ret2
    exact Gives.none_ (encL_bad (by rw [H.out]; decide)) H.out
  · have hd : decide ((600 : Int) < (n : Int)) = false := by simp; omega
    have hn6 : n ≤ 600 := by omega
    have H6 := hide h6
    have HN := hide hn
    clear hn h6
    go_enter Tryz.func41, Tryz.ntmps41
    go_wp2
    go_loopw [4, 14] (fun s i wr => ∃ (j : Nat) (A' : Option Addr) (n' c' : Nat), j ≤ n ∧ i = .int .i64 (j : Int) ∧ s = .slice A' n' c' ∧ wr.ownsRow w.heap.size 5 1 (.slice A' n' c') n' (cs8 (allB (l.take j))) ∧ Below w.heap.size w wr ∧ Hid (badE (l.take j) = 0)) (fun _ i _ => n - (intOf i).toNat)
    case atStart => exact ⟨0, _, _, _, Nat.zero_le _, rfl, rfl, by simpa [allB, cs8] using World.ownsRow_nil w w.heap.size 5 1, Below.refl _ _, hide rfl⟩
    case round =>
      obtain ⟨j, A', n', c', hj, rfl, rfl, ho, hb, HBAD⟩ := hrel
      have hbs := hb.size
      by_cases hlt : j < n
      · obtain ⟨b, o, y, x, rfl, _, hu, hc0, hc1, hx⟩ := (hr.keep hb hB).get hlt
        have HU := hide hu
        have HX := hide hx
        have hnl : n' ≤ 3000 := by have h1 := own8_len ho; have h2 := take_len_le l j (by omega); omega
        clear hu hx
        by_cases hg : rgtE y x = 0
        · have HS := hide (enc_step HU.out HBAD.out hg)
          have HIB := hide (insB_len y x)
          have hw4 := wid_le y
          have HG := hide (bytI_ok hg)
          go_wp2_with (first
            | (go_at_call 72; refine (iBytes_any _ _ _ HX.out).mono ?_; rw [HG.out, hg]; rintro e w2 ⟨A2, n2, c2, rfl, ho2, hb2⟩; have hb12 : Below wr.heap.size wr w2 := (below_box wr _).trans (hb2.mono (by simp)); have hn2 : n2 ≤ 5 := by (have h1 := own8_len ho2; have h2 := HIB.out; omega))
            | (at_builtin; refine wpList_append_row rfl (.tmp 26) (.tmp 27) 29 rfl w.heap.size 5 i0 _ 1 Tryz.underlying29 hi hz0 hz1 hz2 rfl _ _ _ rfl (own_keep ho hb12) w2.heap.size _ _ _ _ rfl (Row.of_own ho2) (cs8_one _) (by unfold maxLen; omega) (by omega) w (hb.trans (hb12.mono hbs)) (Nat.le_refl _) ?_; intro A3 c3 w3 ho3 hb3 hg3))
          go_roundw
          case rel => exact ⟨j + 1, A3, _, c3, by omega, by go_num, rfl, by rw [HS.out.2, cs8_app]; exact ho3, hb3, hide HS.out.1⟩
          case measure => simp [intOf]; omega
        · have HS := hide (enc_stop HU.out H6.out HBAD.out hg)
          have hgn : (rgtE y x != 0) = true := by simpa using hg
          go_wp2_with (go_at_call 72; refine (iBytes_any _ _ _ HX.out).mono ?_; rintro e w2 ⟨A2, n2, c2, rfl, ho2, hb2⟩; have hb12 : Below wr.heap.size wr w2 := (below_box wr _).trans (hb2.mono (by simp)))
          go_ret2
          rw [encL_bad (by rw [HS.out]; exact hg)]
          exact Gives.of HS.out (World.ownsRow_nil _ _ _ _) (hb.trans (hb12.mono hbs))
      · obtain rfl : j = n := by omega
        have HE := hide (enc_end H6.out (by have := HBAD.out; rwa [← HN.out, List.take_length] at this))
        go_wp2
        go_ret2
        rw [HE.out.2]
        exact Gives.of HE.out.1 (by rw [← HN.out, List.take_length] at ho; exact ho) hb
theorem rEncode_any (B : Nat) (A : Option Addr) (n c : Nat) (l : List (Int × Int)) (w : World) (hr : RowI w B A n c l) (hB : B ≤ w.heap.size) :
    Calls Tryz.prog 58 #[.slice A n c] w (Gives w (encL l) (encE l)) := by
  obtain ⟨i0, hi, hz0, hz1, hz2⟩ := info_parts info8
  have hn := hr.len
  have hcap := hr.cap
  have hmx := hr.max
  unfold maxLen at hmx
  by_cases h6 : 600 < l.length
  · have hd : decide ((600 : Int) < (n : Int)) = true := by simp; omega
    have H := hide (encE_big h6)
    clear hn h6
    go_enter Tryz.func58, Tryz.ntmps58
    go_wp2
    go_ret2
    exact Gives.none_ (encL_bad (by rw [H.out]; decide)) H.out
  · have hd : decide ((600 : Int) < (n : Int)) = false := by simp; omega
    have hn6 : n ≤ 600 := by omega
    have H6 := hide h6
    have HN := hide hn
    clear hn h6
    go_enter Tryz.func58, Tryz.ntmps58
    go_wp2
    go_loopw [4, 5] (fun s i wr => ∃ (j : Nat) (A' : Option Addr) (n' c' : Nat), j ≤ n ∧ i = .int .i64 (j : Int) ∧ s = .slice A' n' c' ∧ wr.ownsRow w.heap.size 5 1 (.slice A' n' c') n' (cs8 (allB (l.take j))) ∧ Below w.heap.size w wr ∧ Hid (badE (l.take j) = 0)) (fun _ i _ => n - (intOf i).toNat)
    case atStart => exact ⟨0, _, _, _, Nat.zero_le _, rfl, rfl, by simpa [allB, cs8] using World.ownsRow_nil w w.heap.size 5 1, Below.refl _ _, hide rfl⟩
    case round =>
      obtain ⟨j, A', n', c', hj, rfl, rfl, ho, hb, HBAD⟩ := hrel
      have hbs := hb.size
      by_cases hlt : j < n
      · obtain ⟨b, o, y, x, rfl, _, hu, hc0, hc1, hx⟩ := (hr.keep hb hB).get hlt
        have HU := hide hu
        have HX := hide hx
        have hnl : n' ≤ 3000 := by have h1 := own8_len ho; have h2 := take_len_le l j (by omega); omega
        clear hu hx
        by_cases hg : rgtE y x = 0
        · have HS := hide (enc_step HU.out HBAD.out hg)
          have HIB := hide (insB_len y x)
          have hw4 := wid_le y
          have HG := hide (bytI_ok hg)
          go_wp2_with (first
            | (go_at_call 90; refine (irBytes_any _ _ _ HX.out).mono ?_; rw [HG.out, hg]; rintro e w2 ⟨A2, n2, c2, rfl, ho2, hb2⟩; have hb12 : Below wr.heap.size wr w2 := hb2; have hn2 : n2 ≤ 5 := by (have h1 := own8_len ho2; have h2 := HIB.out; omega))
            | (at_builtin; refine wpList_append_row rfl (.tmp 28) (.tmp 29) 29 rfl w.heap.size 5 i0 _ 1 Tryz.underlying29 hi hz0 hz1 hz2 rfl _ _ _ rfl (own_keep ho hb12) w2.heap.size _ _ _ _ rfl (Row.of_own ho2) (cs8_one _) (by unfold maxLen; omega) (by omega) w (hb.trans (hb12.mono hbs)) (Nat.le_refl _) ?_; intro A3 c3 w3 ho3 hb3 hg3))
          go_roundw
          case rel => exact ⟨j + 1, A3, _, c3, by omega, by go_num, rfl, by rw [HS.out.2, cs8_app]; exact ho3, hb3, hide HS.out.1⟩
          case measure => simp [intOf]; omega
        · have HS := hide (enc_stop HU.out H6.out HBAD.out hg)
          have hgn : (rgtE y x != 0) = true := by simpa using hg
          go_wp2_with (go_at_call 90; refine (irBytes_any _ _ _ HX.out).mono ?_; rintro e w2 ⟨A2, n2, c2, rfl, ho2, hb2⟩; have hb12 : Below wr.heap.size wr w2 := hb2)
          go_ret2
          rw [encL_bad (by rw [HS.out]; exact hg)]
          exact Gives.of HS.out (World.ownsRow_nil _ _ _ _) (hb.trans (hb12.mono hbs))
      · obtain rfl : j = n := by omega
        have HE := hide (enc_end H6.out (by have := HBAD.out; rwa [← HN.out, List.take_length] at this))
        go_wp2
        go_ret2
        rw [HE.out.2]
        exact Gives.of HE.out.1 (by rw [← HN.out, List.take_length] at ho; exact ho) hb
/-- New instructions, a fault and a place. -/
def GivesI (w : World) (r : List (Int × Int) × Int × Int) (e : Ending) (w' : World) : Prop :=
  ∃ A n c, e = .returned (.tuple #[.slice A n c, .int .i64 r.2.1, .int .i64 r.2.2]) ∧ w'.ownsRow w.heap.size 56 2 (.slice A n c) n (csI r.1) ∧ Below w.heap.size w w'
theorem GivesI.of {w w' : World} {r : List (Int × Int) × Int × Int} {l : List (Int × Int)} {er to : Int} {A : Option Addr} {n c : Nat} (h : r = (l, er, to)) (ho : w'.ownsRow w.heap.size 56 2 (.slice A n c) n (csI l)) (hb : Below w.heap.size w w') :
    GivesI w r (.returned (.tuple #[.slice A n c, .int .i64 er, .int .i64 to])) w' := by
  subst h; exact ⟨A, n, c, rfl, ho, hb⟩
theorem RowI.one2 (w : World) (C : Obj) (y x : Int) (hx : -2147483648 ≤ x ∧ x ≤ 2147483647) (e : TypeId) : RowI ((w.alloc C).alloc (.cells #[.int .i64 y, .int .i32 x] e)) (w.heap.size + 2) (some ⟨w.heap.size + 1, 0, none⟩) 1 1 [(y, x)] := by
  have := RowI.one (w.alloc C) y x hx e
  simpa using this
theorem ownI_nil (w : World) (base : Nat) : w.ownsRow base 56 2 (.slice none 0 0) 0 (csI []) := World.ownsRow_nil _ _ _ _
theorem Decode_any (B : Nat) (A : Option Addr) (n c : Nat) (l : List UInt8) (w : World) (hr : Row w B A n c (cs8 l)) (hB : B ≤ w.heap.size) (hl : n ≤ 1099511627776) :
    Calls Tryz.prog 77 #[.slice A n c] w (GivesI w (decA l)) := by
  have hn := hr.len
  rw [cs8_len] at hn
  have HN := hide hn
  clear hn
  go_enter Tryz.func77, Tryz.ntmps77
  go_wp2
  go_loopw [5, 6] (fun s i wr => ∃ (j m f : Nat) (A' : Option Addr) (c' : Nat) (out : List (Int × Int)), j ≤ n ∧ i = .int .i64 (j : Int) ∧ s = .slice A' m c' ∧ m ≤ 600 ∧ wr.ownsRow w.heap.size 56 2 (.slice A' m c') m (csI out) ∧ Below w.heap.size w wr ∧ Hid (n < j + f ∧ decA l = decG l f out (j : Int))) (fun _ i _ => n - (intOf i).toNat)
  case atStart => exact ⟨0, 0, n + 1, _, _, [], Nat.zero_le _, rfl, rfl, by omega, ownI_nil w _, Below.refl _ _, hide ⟨by omega, by rw [← HN.out]; rfl⟩⟩
  case round =>
    obtain ⟨j, m, f, A', c', out, hj, rfl, rfl, hm, ho, hb, HD⟩ := hrel
    have hbs := hb.size
    have HM := hide (ownI_len ho)
    by_cases hlt : j < n
    · obtain ⟨f, rfl⟩ : ∃ k, f = k + 1 := ⟨f - 1, by have := HD.out.1; omega⟩
      by_cases h6 : m = 600
      · have hd6 : ((m : Int) == 600) = true := by rw [beq_iff_eq]; omega
        have HR := hide (HD.out.2.trans (decG_big (l := l) (f := f) (out := out) (a := (j : Int)) (by have := HN.out; omega) (by rw [HM.out]; exact h6)))
        clear h6
        go_wp2
        go_ret3
        exact GivesI.of HR.out (ownI_nil _ _) hb
      · have hd6 : ((m : Int) == 600) = false := by rw [beq_eq_false_iff_ne]; omega
        have hm6 : m ≤ 599 := by omega
        have H6 := hide h6
        clear h6 hm
        have hj2 : (j : Int) < l.length := by have := HN.out; omega
        by_cases hz : rdE l (j : Int) = 0
        · have HR := hide (HD.out.2.trans (decG_go (f := f) (out := out) hj2 (by rw [HM.out]; exact H6.out) hz))
          obtain ⟨q, hq⟩ : ∃ q : Nat, rdT l (j : Int) = (q : Int) := ⟨_, (rd_ok hz).2.2⟩
          obtain ⟨y, hy⟩ : ∃ y, rdO l (j : Int) = y := ⟨_, rfl⟩
          obtain ⟨x, hx⟩ : ∃ x, rdX l (j : Int) = x := ⟨_, rfl⟩
          have HQ := hide (show j < q ∧ q ≤ n by have h1 := (rd_zero hz).1; have h2 := (rd_ok hz).2.2; have h3 := HN.out; omega)
          have HX := hide (show -2147483648 ≤ x ∧ x ≤ 2147483647 by rw [← hx, (rd_ok hz).2.1]; exact numAt_rng l j)
          rw [hq, hy, hx] at HR
          have HC := hide (And.intro hq (And.intro hy (And.intro hx hz)))
          clear hq hy hx hz
          go_wp2_with (first
            | (go_at_call 102; refine (Read_any B _ _ _ l _ _ (hr.keep hb hB) (by omega) (by omega)).mono ?_; rw [HC.out.1, HC.out.2.1, HC.out.2.2.1, HC.out.2.2.2]; rintro e w2 ⟨rfl, hb2⟩; have hs2 := hb2.size)
            | (at_builtin; refine wpList_append_ins rfl (.tmp 29) (.tmp 31) rfl w.heap.size _ m out rfl (((ownI_keep ho hb2).alloc _).alloc _) _ _ 1 1 [(y, x)] rfl (RowI.one2 w2 _ y x HX.out _) (by omega) w (((hb.trans (hb2.mono hbs)).alloc (by omega) _).alloc (by simp; omega) _) (Nat.le_refl _) ?_; intro A3 c3 w3 ho3 hb3 hg3))
          go_roundw
          case rel => exact ⟨q, m + 1, f, A3, c3, out ++ [(y, x)], HQ.out.2, rfl, rfl, by omega, ho3, hb3, hide ⟨by have := HQ.out.1; have := HD.out.1; omega, HR.out⟩⟩
          case measure => have := HQ.out; simp [intOf]; omega
        · have HR := hide (HD.out.2.trans (decG_bad (f := f) (out := out) hj2 (by rw [HM.out]; exact H6.out) hz))
          have hzn : (rdE l (j : Int) != 0) = true := by simpa using hz
          have hz2 := rd_bad hz
          go_wp2_with (go_at_call 102; refine (Read_any B _ _ _ l _ _ (hr.keep hb hB) (by omega) (by omega)).mono ?_; rintro e w2 ⟨rfl, hb2⟩)
          go_ret3
          exact GivesI.of HR.out (ownI_nil _ _) ((hb.trans (hb2.mono hbs)).alloc (by have := hb2.size; omega) _)
    · obtain rfl : j = n := by omega
      have HR := hide (HD.out.2.trans (decG_end (f := f) (out := out) (a := (j : Int)) (by have := HN.out; omega)))
      go_wp2
      go_ret3
      exact GivesI.of HR.out ho hb
theorem rDecode_any (B : Nat) (A : Option Addr) (n c : Nat) (l : List UInt8) (w : World) (hr : Row w B A n c (cs8 l)) (hB : B ≤ w.heap.size) (hl : n ≤ 1099511627776) :
    Calls Tryz.prog 66 #[.slice A n c] w (GivesI w (decA l)) := by
  have hn := hr.len
  rw [cs8_len] at hn
  have HN := hide hn
  clear hn
  go_enter Tryz.func66, Tryz.ntmps66
  go_wp2
  go_loopw [5, 6] (fun s i wr => ∃ (j m f : Nat) (A' : Option Addr) (c' : Nat) (out : List (Int × Int)), j ≤ n ∧ i = .int .i64 (j : Int) ∧ s = .slice A' m c' ∧ m ≤ 600 ∧ wr.ownsRow w.heap.size 56 2 (.slice A' m c') m (csI out) ∧ Below w.heap.size w wr ∧ Hid (n < j + f ∧ decA l = decG l f out (j : Int))) (fun _ i _ => n - (intOf i).toNat)
  case atStart => exact ⟨0, 0, n + 1, _, _, [], Nat.zero_le _, rfl, rfl, by omega, ownI_nil w _, Below.refl _ _, hide ⟨by omega, by rw [← HN.out]; rfl⟩⟩
  case round =>
    obtain ⟨j, m, f, A', c', out, hj, rfl, rfl, hm, ho, hb, HD⟩ := hrel
    have hbs := hb.size
    have HM := hide (ownI_len ho)
    by_cases hlt : j < n
    · obtain ⟨f, rfl⟩ : ∃ k, f = k + 1 := ⟨f - 1, by have := HD.out.1; omega⟩
      by_cases h6 : m = 600
      · have hd6 : ((m : Int) == 600) = true := by rw [beq_iff_eq]; omega
        have HR := hide (HD.out.2.trans (decG_big (l := l) (f := f) (out := out) (a := (j : Int)) (by have := HN.out; omega) (by rw [HM.out]; exact h6)))
        clear h6
        go_wp2
        go_ret3
        exact GivesI.of HR.out (ownI_nil _ _) hb
      · have hd6 : ((m : Int) == 600) = false := by rw [beq_eq_false_iff_ne]; omega
        have hm6 : m ≤ 599 := by omega
        have H6 := hide h6
        clear h6 hm
        have hj2 : (j : Int) < l.length := by have := HN.out; omega
        by_cases hz : rdE l (j : Int) = 0
        · have HR := hide (HD.out.2.trans (decG_go (f := f) (out := out) hj2 (by rw [HM.out]; exact H6.out) hz))
          obtain ⟨q, hq⟩ : ∃ q : Nat, rdT l (j : Int) = (q : Int) := ⟨_, (rd_ok hz).2.2⟩
          obtain ⟨y, hy⟩ : ∃ y, rdO l (j : Int) = y := ⟨_, rfl⟩
          obtain ⟨x, hx⟩ : ∃ x, rdX l (j : Int) = x := ⟨_, rfl⟩
          have HQ := hide (show j < q ∧ q ≤ n by have h1 := (rd_zero hz).1; have h2 := (rd_ok hz).2.2; have h3 := HN.out; omega)
          have HX := hide (show -2147483648 ≤ x ∧ x ≤ 2147483647 by rw [← hx, (rd_ok hz).2.1]; exact numAt_rng l j)
          rw [hq, hy, hx] at HR
          have HC := hide (And.intro hq (And.intro hy (And.intro hx hz)))
          clear hq hy hx hz
          go_wp2_with (first
            | (go_at_call 98; refine (rRead_any B _ _ _ l _ _ (hr.keep hb hB) (by omega) (by omega)).mono ?_; rw [HC.out.1, HC.out.2.1, HC.out.2.2.1, HC.out.2.2.2]; rintro e w2 ⟨rfl, hb2⟩; have hs2 := hb2.size)
            | (at_builtin; refine wpList_append_ins rfl (.tmp 29) (.tmp 31) rfl w.heap.size _ m out rfl (((ownI_keep ho hb2).alloc _).alloc _) _ _ 1 1 [(y, x)] rfl (RowI.one2 w2 _ y x HX.out _) (by omega) w (((hb.trans (hb2.mono hbs)).alloc (by omega) _).alloc (by simp; omega) _) (Nat.le_refl _) ?_; intro A3 c3 w3 ho3 hb3 hg3))
          go_roundw
          case rel => exact ⟨q, m + 1, f, A3, c3, out ++ [(y, x)], HQ.out.2, rfl, rfl, by omega, ho3, hb3, hide ⟨by have := HQ.out.1; have := HD.out.1; omega, HR.out⟩⟩
          case measure => have := HQ.out; simp [intOf]; omega
        · have HR := hide (HD.out.2.trans (decG_bad (f := f) (out := out) hj2 (by rw [HM.out]; exact H6.out) hz))
          have hzn : (rdE l (j : Int) != 0) = true := by simpa using hz
          have hz2 := rd_bad hz
          go_wp2_with (go_at_call 98; refine (rRead_any B _ _ _ l _ _ (hr.keep hb hB) (by omega) (by omega)).mono ?_; rintro e w2 ⟨rfl, hb2⟩)
          go_ret3
          exact GivesI.of HR.out (ownI_nil _ _) ((hb.trans (hb2.mono hbs)).alloc (by have := hb2.size; omega) _)
    · obtain rfl : j = n := by omega
      have HR := hide (HD.out.2.trans (decG_end (f := f) (out := out) (a := (j : Int)) (by have := HN.out; omega)))
      go_wp2
      go_ret3
      exact GivesI.of HR.out ho hb
end Go.Proofs.YtdikiabjkmigdaaGreatDoor
