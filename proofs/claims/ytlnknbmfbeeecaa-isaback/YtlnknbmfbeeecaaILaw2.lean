/-
  The walks of the laws IsaJoins and IsaDecodes.
-/
import Derived.Test.YtlnknbmfbeeecaaILaw1
namespace Go.Proofs.Ytlnknbmfbeeecaa
open Go.RowKit
set_option maxHeartbeats 2000000

theorem cs8_str (a b : List UInt8) : (⟨(a ++ b).toArray⟩ : ByteArray) = ⟨a.toArray⟩ ++ ⟨b.toArray⟩ := by
  apply ByteArray.ext
  simp
theorem encL_le (l : List (Int × Int)) : (encL l).length ≤ 5 * l.length := by
  unfold encL; split
  · exact allB_len_le l
  · simp
theorem enc_app {a b : List (Int × Int)} (ha : a.length ≤ 300) (hb : b.length ≤ 300) : (encE a = 0 → encE b = 0 → encE (a ++ b) = 0 ∧ encL (a ++ b) = encL a ++ encL b) ∧ (¬ (encE a = 0 ∧ encE b = 0) → encE (a ++ b) ≠ 0) := by
  have e1 := encE_small (l := a) (by omega)
  have e2 := encE_small (l := b) (by omega)
  have e3 := encE_small (l := a ++ b) (by rw [List.length_append]; omega)
  constructor
  · intro h1 h2
    have h3 : encE (a ++ b) = 0 := by rw [e3, badE_app _ _ (e1 ▸ h1), ← e2, h2]
    exact ⟨h3, by rw [encL_ok h3, encL_ok h1, encL_ok h2, allB_app]⟩
  · intro h
    rw [e3]
    by_cases h1 : badE a = 0
    · rw [badE_app _ _ h1]
      intro h2
      exact h ⟨e1.trans h1, e2.trans h2⟩
    · rw [badE_app_bad _ _ h1]; exact h1
theorem joins_walk (A : Option Addr) (n c : Nat) (l : List (Int × Int)) (A' : Option Addr) (n' c' : Nat) (l' : List (Int × Int)) (w : World) (hr : RowI w w.heap.size A n c l) (hr' : RowI w w.heap.size A' n' c' l') :
    Calls Try.prog 9 #[.slice A n c, .slice A' n' c'] w fun e w' => e = .returned (.bool true) ∧ Below w.heap.size w w' := by
  by_cases hbig : 300 < n
  · have hd : decide ((300 : Int) < (n : Int)) = true := by simp; omega
    go_enter Try.func9, Try.ntmps9
    go_wp2_with (go_at_call 17; refine (known_any _).mono ?_; rintro e wk ⟨rfl, hbk⟩)
    go_ret
    exact ⟨rfl, hbk⟩
  · have hd : decide ((300 : Int) < (n : Int)) = false := by simp; omega
    have hn : n ≤ 300 := by omega
    clear hbig
    by_cases hbig : 300 < n'
    · have hd' : decide ((300 : Int) < (n' : Int)) = true := by simp; omega
      go_enter Try.func9, Try.ntmps9
      go_wp2_with (go_at_call 17; refine (known_any _).mono ?_; rintro e wk ⟨rfl, hbk⟩)
      go_ret
      exact ⟨rfl, hbk⟩
    · have hd' : decide ((300 : Int) < (n' : Int)) = false := by simp; omega
      have hn' : n' ≤ 300 := by omega
      clear hbig
      have HLL := hide (show l.length ≤ 300 ∧ l'.length ≤ 300 by have := hr.len; have := hr'.len; omega)
      have HJ := hide (enc_app (a := l) (b := l') (by have := hr.len; omega) (by have := hr'.len; omega))
      obtain ⟨ea, hea⟩ : ∃ z, encE l = z := ⟨_, rfl⟩
      obtain ⟨eb, heb⟩ : ∃ z, encE l' = z := ⟨_, rfl⟩
      obtain ⟨ec, hec⟩ : ∃ z, encE (l ++ l') = z := ⟨_, rfl⟩
      have HE := hide (And.intro hea (And.intro heb hec))
      have hec0 := encL_bad (l := l ++ l')
      rw [hec] at hec0
      have HC0 := hide hec0
      clear hea heb hec hec0
      go_enter Try.func9, Try.ntmps9
      go_wp2_with fail
      refine (Encode_any w.heap.size _ _ _ l w hr (Nat.le_refl _)).mono ?_
      rw [HE.out.1]
      rintro e w1 ⟨A1, n1, c1, rfl, ho1, hb1⟩
      have hs1 := hb1.size
      go_wp2_with fail
      refine (Encode_any w.heap.size _ _ _ l' w1 (hr'.keep hb1 (Nat.le_refl _)) hs1).mono ?_
      rw [HE.out.2.1]
      rintro e w2 ⟨A2, n2, c2, rfl, ho2, hb2⟩
      have hs2 := hb2.size
      have hb02 := hb1.trans (hb2.mono hs1)
      go_wp2_with fail
      refine (rLent_any w.heap.size A n c l w2 (hr.keep hb02 (Nat.le_refl _)) (by omega)).mono ?_
      rintro e w3 ⟨A3, c3, rfl, ho3, hb3⟩
      have hs3 := hb3.size
      have hb03 := hb02.trans (hb3.mono (by omega))
      go_wp2_with (at_builtin; refine wpList_append_ins rfl (.tmp 32) (.tmp 33) rfl w2.heap.size _ n l rfl ho3 w.heap.size _ _ _ l' rfl (hr'.keep hb03 (Nat.le_refl _)) (by omega) w2 hb3 (Nat.le_refl _) ?_; intro A4 c4 w4 ho4 hb4 hg4)
      have hs4 := hb4.size
      refine (Encode_any w4.heap.size _ _ _ (l ++ l') w4 (RowI.of_own ho4 (fun i hi => by rcases List.mem_append.1 hi with h | h; exact hr.oks i h; exact hr'.oks i h)) (Nat.le_refl _)).mono ?_
      rw [HE.out.2.2]
      rintro e w5 ⟨A5, n5, c5, rfl, ho5, hb5⟩
      have hs5 := hb5.size
      have hb25 := hb4.trans (hb5.mono hs4)
      have hb05 := hb02.trans (hb25.mono (by omega))
      have o1 := own_keep (own_keep ho1 hb2) hb25
      have o2 := own_keep ho2 hb25
      have HB := hide hb05
      clear hb1 hb2 hb3 hb4 hb5 hb02 hb03 hb25 hb05 ho3 ho4 hg4 hs1 hs2 hs3 hs4 hs5 hr hr' ho1 ho2
      by_cases hz : ea = 0 ∧ eb = 0
      · obtain ⟨rfl, rfl⟩ := hz
        obtain ⟨z1, z2⟩ := HJ.out.1 HE.out.1 HE.out.2.1
        obtain rfl : ec = 0 := HE.out.2.2.symm.trans z1
        rw [z2] at ho5
        have q1 := (Row.of_own o1).str (P := Try.prog) (dst := 9) Try.underlying24 Try.underlying5 Try.underlying9
        have q2 := (Row.of_own o2).str (P := Try.prog) (dst := 9) Try.underlying24 Try.underlying5 Try.underlying9
        have q3 := (Row.of_own ho5).str (P := Try.prog) (dst := 9) Try.underlying24 Try.underlying5 Try.underlying9
        rw [cs8_str] at q3
        have hlen : ¬ 9223372036854775807 < (encL l).length + (encL l').length := by have h1 := encL_le l; have h2 := encL_le l'; have h3 := HLL.out; omega
        clear z1 z2 o1 o2 ho5
        go_wp2_with (go_at_call 17; refine (known_any _).mono ?_; rintro e wk ⟨rfl, hbk⟩)
        go_ret
        exact ⟨rfl, HB.out.trans (hbk.mono HB.out.size)⟩
      · have hcn : ec ≠ 0 := by have := HJ.out.2 (by rw [HE.out.1, HE.out.2.1]; exact hz); rwa [HE.out.2.2] at this
        have hcd : (ec != 0) = true := by simpa using hcn
        rw [HC0.out hcn] at ho5
        obtain rfl : n5 = 0 := by have := own8_len ho5; simpa using this.symm
        clear hcn o1 o2 ho5
        by_cases h1 : ea = 0
        · have h1n : (ea != 0) = false := by simpa using h1
          have h2n : (eb != 0) = true := by simp; intro h; exact hz ⟨h1, h⟩
          clear hz h1
          go_wp2_with (go_at_call 17; refine (known_any _).mono ?_; rintro e wk ⟨rfl, hbk⟩)
          go_ret
          exact ⟨rfl, HB.out.trans (hbk.mono HB.out.size)⟩
        · have h1n : (ea != 0) = true := by simpa using h1
          clear hz h1
          go_wp2_with (go_at_call 17; refine (known_any _).mono ?_; rintro e wk ⟨rfl, hbk⟩)
          go_ret
          exact ⟨rfl, HB.out.trans (hbk.mono HB.out.size)⟩
theorem ownI_apart {w w' : World} {base g : Nat} {e : TypeId} {v u : Value} {n : Nat} {xs : List Value} (h : w.ownsRow base e 2 v n xs) (hg : w.grownBy w' u.ownBlock) (hu : ∀ k, u.ownBlock = some k → k < g) (hb : g ≤ base) : w'.ownsRow base e 2 v n xs :=
  h.kept hg (by
    cases hv : v.ownBlock with
    | none => exact .inl rfl
    | some k =>
      refine .inr fun he => ?_
      have h1 := (h.lt k hv).1
      have h2 := hu k he.symm
      omega)
theorem decodes_walk (A : Option Addr) (n c : Nat) (l : List UInt8) (w : World) (hr : Row w w.heap.size A n c (cs8 l)) :
    Calls Try.prog 6 #[.slice A n c] w fun e w' => e = .returned (.bool true) ∧ Below w.heap.size w w' := by
  have hn := hr.len
  rw [cs8_len] at hn
  by_cases hbig : 10000 < n
  · have hd : decide ((10000 : Int) < (n : Int)) = true := by simp; omega
    go_enter Try.func6, Try.ntmps6
    go_wp2_with (go_at_call 17; refine (known_any _).mono ?_; rintro e wk ⟨rfl, hbk⟩)
    go_ret
    exact ⟨rfl, hbk⟩
  · have hd : decide ((10000 : Int) < (n : Int)) = false := by simp; omega
    have hn1 : n ≤ 10000 := by omega
    clear hbig
    have g3 := (decA_only l).2.2
    have h600 : (decA l).1.length ≤ 600 := by
      obtain ⟨g1, g2, _⟩ := decA_only l
      by_cases hz : (decA l).2.1 = 0
      · exact (g1 hz).2.2.1
      · rw [(g2 hz).1]; simp
    obtain ⟨⟨d, er, at_⟩, hD⟩ : ∃ r, decA l = r := ⟨_, rfl⟩
    rw [hD] at g3 h600
    simp only at g3 h600
    have HD := hide hD
    have HN := hide hn
    have H6 := hide h600
    clear hD hn h600
    go_enter Try.func6, Try.ntmps6
    go_wp2_with fail
    refine (Lent_any w.heap.size A n c l w hr (by omega)).mono ?_
    rintro e w1 ⟨g, c1, rfl, ho1, hb1⟩
    have hs1 := hb1.size
    have hk1 := Row.of_own ho1
    go_wp2_with fail
    refine (Decode_any w1.heap.size _ _ _ l w1 (hk1.lent HN.out) (Nat.le_refl _) (by omega)).mono ?_
    rw [HD.out]
    rintro e w2 ⟨A2, n2, c2, rfl, ho2, hb2⟩
    have hs2 := hb2.size
    have hb02 := hb1.trans (hb2.mono hs1)
    go_wp2_with fail
    refine (rDecode_any w.heap.size _ _ _ l w2 (hr.keep hb02 (Nat.le_refl _)) (by omega) (by omega)).mono ?_
    rw [HD.out]
    rintro e w3 ⟨A3, n3, c3, rfl, ho3, hb3⟩
    have hs3 := hb3.size
    have hb13 := hb2.trans (hb3.mono hs2)
    have hb03 := hb1.trans (hb13.mono hs1)
    have o2 := ownI_keep ho2 hb3
    have k2 := RowI.of_own o2 g3
    have k3 := RowI.of_own ho3 g3
    go_wp2_with fail
    refine (rSame_any _ _ _ _ _ _ _ _ d _ k2 k3).mono ?_
    rintro e w4 ⟨kk, rfl, rfl⟩
    have hb4 := below_drewN w3.heap.size w3 kk
    have o2' := ownI_keep o2 hb4
    have o3' := ownI_keep ho3 hb4
    have hb14 := hb13.trans (hb4.mono (by omega))
    have hb04 := hb1.trans (hb14.mono hs1)
    have hk4 := hk1.keep hb14 (Nat.le_refl _)
    have hr4 := hr.keep hb04 (Nat.le_refl _)
    have hn2 : n2 ≤ 600 := by have := ownI_len o2'; have := H6.out; omega
    have hlt2 : ∀ k, (Value.slice A2 n2 c2).ownBlock = some k → k < w2.heap.size := fun k hk => (ho2.lt k hk).2
    have hs4 := hb4.size
    generalize w3.drewN kk = w4 at hb4 o2' o3' hb14 hb04 hk4 hr4 hs4 ⊢
    have HL := hide hlt2
    clear ho2 ho3 hb2 hb3 hb02 hb13 hb03 o2 k2 k3 ho1 hb4 hlt2
    go_wp2_with (first
      | (go_at_call 21; refine (Kept_any _ _ g _ n _ _ l _ hk4 hr4 (by omega)).mono ?_; rintro e w6 ⟨rfl, rfl⟩)
      | (go_at_call 28; refine (rSpoil_any _ _ _ _ _ _ o2' (by omega)).mono ?_; rintro e w5 ⟨rfl, hg5⟩))
    have hb5 : Below w1.heap.size w4 w5 := (Below.refl _ _).grown hg5 (by omega) fun k hk => (o2'.lt k hk).1
    have o3 := ownI_apart o3' hg5 HL.out (Nat.le_refl _)
    have hb15 := hb14.trans hb5
    have hs5 := hb15.size
    have hk5 := hk1.keep hb15 (Nat.le_refl _)
    have hb05 := hb1.trans (hb15.mono hs1)
    clear hg5 HL o2' o3' hb14 hb04 hk4 hr4 hb5
    refine (Decode_any w1.heap.size _ _ _ l w5 (hk5.lent HN.out) hs5 (by omega)).mono ?_
    rw [HD.out]
    rintro e w7 ⟨A7, n7, c7, rfl, ho7, hb7⟩
    have hs7 := hb7.size
    have hb07 := hb05.trans (hb7.mono (by omega))
    have k7 := RowI.of_own ho7 g3
    have k3 := (RowI.of_own o3 g3).keep hb7 (Nat.le_refl _)
    have HB := hide hb07
    clear ho7 hb7 hb07 hb05 hb15 hk5 hk1 hr hb1 o3
    go_wp2_with (first
      | (go_at_call 25; refine (rSame_any _ _ _ _ _ _ _ _ d _ k7 k3).mono ?_; rintro e w8 ⟨k8, rfl, rfl⟩)
      | (go_at_call 17; refine (known_any _).mono ?_; rintro e wk ⟨rfl, hbk⟩))
    go_ret
    exact ⟨rfl, (HB.out.trans (below_drewN _ w7 k8)).trans (hbk.mono HB.out.size)⟩
end Go.Proofs.Ytlnknbmfbeeecaa
