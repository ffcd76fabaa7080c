/-
  The walks of the laws IsaReads, IsaCodes, IsaOnly and IsaJoins.
-/
import Derived.Test.YtlnknbmfbeeecaaILent
namespace Go.Proofs.Ytlnknbmfbeeecaa
open Go.RowKit
set_option maxHeartbeats 2000000

theorem Row.lent {w : World} {B : Nat} {g n c : Nat} {l : List UInt8} (h : Row w B (some ⟨g, 0, none⟩) (n + 1) c (cs8 (l ++ [77]))) (hl : l.length = n) : Row w B (some ⟨g, 0, none⟩) n c (cs8 l) := by
  have hp := h.pre (b := n) (by omega)
  rwa [cs8_snoc, List.take_left' (by rw [cs8_len]; exact hl)] at hp
theorem reads_walk (A : Option Addr) (n c : Nat) (l : List UInt8) (a : Int) (w : World) (hr : Row w w.heap.size A n c (cs8 l)) (hl : n ≤ 140737488351232) (_ha : (Lit.int .i64 a).wf = true) :
    Calls Try.prog 4 #[.slice A n c, .int .i64 a] w fun e w' => e = .returned (.bool true) ∧ Below w.heap.size w w' := by
  have hn := hr.len
  rw [cs8_len] at hn
  obtain ⟨y, hy⟩ : ∃ y, rdO l a = y := ⟨_, rfl⟩
  obtain ⟨x, hx⟩ : ∃ x, rdX l a = x := ⟨_, rfl⟩
  obtain ⟨t, ht⟩ : ∃ t, rdT l a = t := ⟨_, rfl⟩
  obtain ⟨z, hz⟩ : ∃ z, rdE l a = z := ⟨_, rfl⟩
  have HC := hide (And.intro hy (And.intro hx (And.intro ht hz)))
  clear hy hx ht hz
  go_enter Try.func4, Try.ntmps4
  go_wp2_with fail
  refine (Lent_any w.heap.size A n c l w hr hl).mono ?_
  rintro e w1 ⟨g, c1, rfl, ho1, hb1⟩
  have hk1 := Row.of_own ho1
  go_wp2_with fail
  refine (Read_any w1.heap.size _ _ _ l a w1 (hk1.lent hn) (Nat.le_refl _) hl).mono ?_
  rw [HC.out.1, HC.out.2.1, HC.out.2.2.1, HC.out.2.2.2]
  rintro e w2 ⟨rfl, hb2⟩
  have hs1 := hb1.size
  have hs2 := hb2.size
  go_wp2_with fail
  have b3 := Blk.new w2 23 [.int .i64 y, .int .i32 x]
  have hb3 := below_box w2 (.cells #[.int .i64 y, .int .i32 x] 23)
  generalize w2.alloc (.cells #[.int .i64 y, .int .i32 x] 23) = w3 at b3 hb3 ⊢
  have hs3 := hb3.size
  have hb13 : Below w1.heap.size w1 w3 := hb2.trans (hb3.mono hs2)
  have hb03 : Below w.heap.size w w3 := hb1.trans (hb13.mono hs1)
  refine (rRead_any w.heap.size _ _ _ l a w3 (hr.keep hb03 (Nat.le_refl _)) (by omega) hl).mono ?_
  rw [HC.out.1, HC.out.2.1, HC.out.2.2.1, HC.out.2.2.2]
  rintro e w4 ⟨rfl, hb4⟩
  have hs4 := hb4.size
  have b4 := b3.keep hb4 b3.lt
  have hb14 := hb13.trans (hb4.mono (by omega))
  have hb5 := below_box w4 (.cells #[.int .i64 y, .int .i32 x] 23)
  have hb15 := hb14.trans (hb5.mono (by omega))
  have b5 := b4.keep hb5 b4.lt
  have c0 := b5.cell (j := 0) rfl
  have c1 := b5.cell (j := 1) rfl
  have hk5 := hk1.keep hb15 (Nat.le_refl _)
  have hb05 := hb1.trans (hb15.mono hs1)
  have hr5 := hr.keep hb05 (Nat.le_refl _)
  have HB := hide hb05
  have hs5 := hb05.size
  clear b3 b4 b5 hb3 hb13 hb03 hb4 hb14 hb5 hb15 hb05 hb1 hb2 ho1 hr hk1 hs1 hs2 hs3 hs4
  go_wp2_with (first
    | (go_at_call 21; refine (Kept_any _ _ g _ n _ _ l _ hk5 hr5 hl).mono ?_; rintro e w6 ⟨rfl, rfl⟩)
    | (go_at_call 17; refine (known_any _).mono ?_; rintro e wk ⟨rfl, hbk⟩))
  go_ret
  exact ⟨rfl, HB.out.trans (hbk.mono HB.out.size)⟩
theorem codes_walk (A : Option Addr) (n c : Nat) (l : List (Int × Int)) (w : World) (hr : RowI w w.heap.size A n c l) :
    Calls Try.prog 5 #[.slice A n c] w fun e w' => e = .returned (.bool true) ∧ Below w.heap.size w w' := by
  by_cases hbig : 2000 < n
  · have hd : decide ((2000 : Int) < (n : Int)) = true := by simp; omega
    go_enter Try.func5, Try.ntmps5
    go_wp2_with (go_at_call 17; refine (known_any _).mono ?_; rintro e wk ⟨rfl, hbk⟩)
    go_ret
    exact ⟨rfl, hbk⟩
  · have hd : decide ((2000 : Int) < (n : Int)) = false := by simp; omega
    have hn : n ≤ 2000 := by omega
    clear hbig
    go_enter Try.func5, Try.ntmps5
    go_wp2_with fail
    refine (rLent_any w.heap.size A n c l w hr (by omega)).mono ?_
    rintro e w1 ⟨A1, c1, rfl, ho1, hb1⟩
    have hs1 := hb1.size
    have hk1 := RowI.of_own ho1 hr.oks
    go_wp2_with fail
    refine (Encode_any w1.heap.size _ _ _ l w1 hk1 (Nat.le_refl _)).mono ?_
    rintro e w2 ⟨A2, n2, c2, rfl, ho2, hb2⟩
    have hs2 := hb2.size
    have hb02 := hb1.trans (hb2.mono hs1)
    go_wp2_with fail
    refine (rEncode_any w.heap.size _ _ _ l w2 (hr.keep hb02 (Nat.le_refl _)) (by omega)).mono ?_
    rintro e w3 ⟨A3, n3, c3, rfl, ho3, hb3⟩
    have hs3 := hb3.size
    have hb13 := hb2.trans (hb3.mono hs2)
    have hb03 := hb1.trans (hb13.mono hs1)
    have q1 := (Row.of_own (own_keep ho2 hb3)).str (P := Try.prog) (dst := 9) Try.underlying24 Try.underlying5 Try.underlying9
    have q2 := (Row.of_own ho3).str (P := Try.prog) (dst := 9) Try.underlying24 Try.underlying5 Try.underlying9
    have hk3 := hk1.keep hb13 (Nat.le_refl _)
    have hr3 := hr.keep hb03 (Nat.le_refl _)
    have HB := hide hb03
    clear ho1 ho2 ho3 hb1 hb2 hb3 hb02 hb13 hb03 hs1 hs2 hs3 hr hk1
    go_wp2_with (first
      | (go_at_call 25; refine (rSame_any _ _ _ _ _ _ _ _ l _ hk3 hr3).mono ?_; rintro e w4 ⟨kk, rfl, rfl⟩)
      | (go_at_call 17; refine (known_any _).mono ?_; rintro e wk ⟨rfl, hbk⟩))
    go_ret
    exact ⟨rfl, (HB.out.trans (below_drewN _ w3 kk)).trans (hbk.mono HB.out.size)⟩
theorem only_walk (A : Option Addr) (n c : Nat) (l : List UInt8) (w : World) (hr : Row w w.heap.size A n c (cs8 l)) :
    Calls Try.prog 8 #[.slice A n c] w fun e w' => e = .returned (.bool true) ∧ Below w.heap.size w w' := by
  have hn := hr.len
  rw [cs8_len] at hn
  by_cases hbig : 10000 < n
  · have hd : decide ((10000 : Int) < (n : Int)) = true := by simp; omega
    go_enter Try.func8, Try.ntmps8
    go_wp2_with (go_at_call 17; refine (known_any _).mono ?_; rintro e wk ⟨rfl, hbk⟩)
    go_ret
    exact ⟨rfl, hbk⟩
  · have hd : decide ((10000 : Int) < (n : Int)) = false := by simp; omega
    have hn1 : n ≤ 10000 := by omega
    clear hbig
    obtain ⟨g1, g2, g3⟩ := decA_only l
    obtain ⟨⟨d, er, at_⟩, hD⟩ : ∃ r, decA l = r := ⟨_, rfl⟩
    rw [hD] at g1 g2 g3
    simp only at g1 g2 g3
    have HD := hide hD
    have HN := hide hn
    clear hD hn
    by_cases he : er = 0
    · obtain ⟨e1, e2, e3, e4⟩ := g1 he
      subst he
      subst e4
      clear g1 g2
      have HE := hide (enc_end (l := d) (by omega) e2)
      have HA := hide e1
      clear e1 e2
      go_enter Try.func8, Try.ntmps8
      go_wp2_with fail
      refine (Decode_any w.heap.size A n c l w hr (Nat.le_refl _) (by omega)).mono ?_
      rw [HD.out]
      rintro e w1 ⟨A1, n1, c1, rfl, ho1, hb1⟩
      have hs1 := hb1.size
      go_wp2_with fail
      refine (Encode_any w1.heap.size _ _ _ d w1 (RowI.of_own ho1 g3) (Nat.le_refl _)).mono ?_
      rw [HE.out.1, HE.out.2, HA.out]
      rintro e w2 ⟨A2, n2, c2, rfl, ho2, hb2⟩
      have hs2 := hb2.size
      have hb02 := hb1.trans (hb2.mono hs1)
      have q1 := (Row.of_own ho2).str (P := Try.prog) (dst := 9) Try.underlying24 Try.underlying5 Try.underlying9
      have q2 := (hr.keep hb02 (Nat.le_refl _)).str (P := Try.prog) (dst := 9) Try.underlying24 Try.underlying5 Try.underlying9
      have HB := hide hb02
      clear ho1 ho2 hb1 hb2 hb02 hs1 hs2 hr
      go_wp2_with (go_at_call 17; refine (known_any _).mono ?_; rintro e wk ⟨rfl, hbk⟩)
      go_ret
      exact ⟨rfl, HB.out.trans (hbk.mono HB.out.size)⟩
    · obtain ⟨e1, e2, e3⟩ := g2 he
      subst e1
      have hen : (er != 0) = true := by simpa using he
      have hd2 : decide (0 ≤ at_) = true := by simpa using e2
      have hd3 : decide (at_ < (n : Int)) = true := by have := HN.out; simp; omega
      clear g1 g2 g3 he e2 e3
      go_enter Try.func8, Try.ntmps8
      go_wp2_with fail
      refine (Decode_any w.heap.size A n c l w hr (Nat.le_refl _) (by omega)).mono ?_
      rw [HD.out]
      rintro e w1 ⟨A1, n1, c1, rfl, ho1, hb1⟩
      obtain rfl : n1 = 0 := by have := ownI_len ho1; simpa using this.symm
      have HB := hide hb1
      clear ho1 hb1
      go_wp2_with (go_at_call 17; refine (known_any _).mono ?_; rintro e wk ⟨rfl, hbk⟩)
      go_ret
      exact ⟨rfl, HB.out.trans (hbk.mono HB.out.size)⟩
end Go.Proofs.Ytlnknbmfbeeecaa
