/-
  The walk of LexBack: it returns true, and turns nothing that was there.
-/
import Derived.Test.YtbcgofmhplgfbaaDoorLKnown
namespace Go.Proofs.YtbcgofmhplgfbaaDoor
open Go.RowKit
set_option maxHeartbeats 1000000

/-- What Scan answers, in parts. -/
theorem Scan_parts (s : ByteArray) (hs : s.size ≤ maxLen) (w : World) (he : Env w) {ts : List Tok} {er : Int} {to : Nat} (hq : Hid (scanL s.data.toList = (ts, er, to))) :
    Calls Tryd.prog 17 #[.string s] w fun e w' => ∃ A n c, e = .returned (.tuple #[.slice A n c, .int .i64 er, .int .i64 (to : Nat)]) ∧ RowT w' w'.heap.size A n c ts ∧ Below w.heap.size w w' := by
  refine (Scan_any s hs w he).mono ?_
  rw [hq.out]
  rintro e w' ⟨A, n, c, rfl, ho, hb⟩
  exact ⟨A, n, c, rfl, RowT.of_own ho, hb⟩
theorem back_walk (s : ByteArray) (w : World) (hs : s.size ≤ maxLen) (he : Env w) :
    Calls Tryd.prog 5 #[.string s] w fun e w' => e = .returned (.bool true) ∧ Below w.heap.size w w' := by
  have HZ := hide hs
  by_cases hbig : 2000 < s.size
  · unfold maxLen at hs
    go_enter Tryd.func5, Tryd.ntmps5
    go_wp2_with (refine (lknown_any _ he).mono ?_; rintro e w' ⟨rfl, b⟩)
    go_ret
    exact ⟨rfl, b⟩
  have hs' : s.size ≤ 2000 := by omega
  obtain ⟨ts, er, to, hq⟩ : ∃ ts er to, scanL s.data.toList = (ts, er, to) := ⟨_, _, _, rfl⟩
  by_cases h0 : er = 0
  · have hsum := (scanL_sum s.data.toList).1
    rw [hq, size_list] at hsum
    have hsum' : sumL ts ≤ 1000000 := by simp at hsum; omega
    have htl : (textL ts).length ≤ 4000 := by have := textL_len ts; simp at hsum; omega
    have hts : scanL s.data.toList = (ts, 0, to) := by rw [hq, h0]
    have hbk := back_scan (l := s.data.toList)
    rw [hq] at hbk
    simp only at hbk
    have hz := str_size (textL ts)
    clear hs hsum
    subst h0
    by_cases h4 : 4096 < (textL ts).length
    · omega
    · obtain ⟨us, er2, to2, hq2⟩ : ∃ us er2 to2, scanL (str (textL ts)).data.toList = (us, er2, to2) := ⟨_, _, _, rfl⟩
      have hb2 := hbk (by omega)
      rw [str_list] at hq2
      rw [hq2] at hb2
      obtain ⟨rfl, hsh⟩ := hb2
      have hsum2 : sumL us ≤ 1000000 := by
        have := (scanL_sum (textL ts)).1
        rw [hq2] at this
        simp at this; omega
      have HQ := hide hq
      have HQ2 : Hid (scanL (str (textL ts)).data.toList = (us, 0, to2)) := hide (by rw [str_list]; exact hq2)
      have HSH := hide hsh
      have HTX : Hid (textL us = textL ts) := hide (textL_shape hsh)
      have hz4 : (str (textL ts)).size ≤ 4096 := by omega
      clear hq hq2 hsh hbk hts hz h4 htl
      go_enter Tryd.func5, Tryd.ntmps5
      go_wp2_with fail
      refine (Scan_parts s HZ.out w he HQ).mono ?_
      rintro e w1 ⟨A, n, c, rfl, hr, b1⟩
      have he1 := he.keep b1
      go_wp2_with fail
      refine (Text_any _ A n c ts w1 hr (Nat.le_refl _) hsum').mono ?_
      rintro e w2 ⟨rfl, b2⟩
      have hr2 := hr.keep b2 (Nat.le_refl _)
      have he2 := he1.keep b2
      have c2 := b1.trans (b2.mono b1.size)
      have z2 := b2.size
      clear hr he he1 b1 b2
      go_wp2_with fail
      refine (Scan_parts _ (by unfold maxLen; omega) w2 he2 HQ2).mono ?_
      rintro e w3 ⟨A', n', c', rfl, hr', b3⟩
      have hr3 := hr2.keep b3 z2
      have he3 := he2.keep b3
      have c3 := c2.trans (b3.mono c2.size)
      clear hr2 he2 b3
      go_wp2_with fail
      refine (rSame_any _ _ A A' n n' c c' ts us w3 hr3 hr' HSH.out.symm).mono ?_
      rintro e w4 ⟨k, rfl, rfl⟩
      have hr4 := hr'.drewN k
      have he4 : Env (w3.drewN k) := he3.keep (below_draws (Below.refl _ _) k)
      have c4 := below_draws c3 k
      have z4 : w3.heap.size ≤ (w3.drewN k).heap.size := Nat.le_refl _
      generalize w3.drewN k = w4 at hr4 he4 c4 z4 ⊢
      have HT : ((str (textL ts)).toList == (str (textL ts)).toList) = true := by simp
      go_wp2_with fail
      refine (Text_any _ A' n' c' us w4 hr4 z4 hsum2).mono ?_
      rw [HTX.out]
      rintro e w5 ⟨rfl, b5⟩
      have he5 := he4.keep b5
      have c5 := c4.trans (b5.mono c4.size)
      go_wp2_with fail
      refine (lknown_any w5 he5).mono ?_
      rintro e w6 ⟨rfl, b6⟩
      go_wp2
      go_ret
      exact ⟨rfl, c5.trans (b6.mono c5.size)⟩
  · have hts := scanL_bad (l := s.data.toList) (by rw [hq]; exact h0)
    rw [hq] at hts
    simp only at hts
    subst hts
    have h0' : (er != 0) = true := by simpa using h0
    have HQ := hide hq
    clear hq hs h0
    go_enter Tryd.func5, Tryd.ntmps5
    go_wp2_with fail
    refine (Scan_parts s HZ.out w he HQ).mono ?_
    rintro e w1 ⟨A, n, c, rfl, hr, b1⟩
    have he1 := he.keep b1
    obtain rfl : n = 0 := hr.len.symm
    go_wp2_with fail
    refine (lknown_any w1 he1).mono ?_
    rintro e w6 ⟨rfl, b6⟩
    go_wp2
    go_ret
    exact ⟨rfl, b1.trans (b6.mono b1.size)⟩
end Go.Proofs.YtbcgofmhplgfbaaDoor
