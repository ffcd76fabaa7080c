/-
  The walk of LexWords: it returns true, and turns nothing that was there.
-/
import Derived.Test.YtbcgofmhplgfbaaDoorLKnown
namespace Go.Proofs.YtbcgofmhplgfbaaDoor
open Go.RowKit
set_option maxHeartbeats 1000000

theorem word_mark : ∀ x ∈ wordL, x ∉ markL := by decide
theorem mark_let : ∀ m ∈ markL, runL isLet m = 0 := by decide
theorem not_wn {l : List UInt8} (h : isWord l = true) : isName l = false := by unfold isName; simp [h]
theorem not_wm {l : List UInt8} (h : isWord l = true) : isMark l = false := by
  have h1 : l ∈ wordL := by simpa [isWord] using h
  have := word_mark l h1
  simpa [isMark] using this
theorem not_nm {l : List UInt8} (h : isMark l = true) : isName l = false := by
  have := mark_let l (mark_mem h)
  unfold isName
  simp [this]
theorem words_walk (s : ByteArray) (w : World) (hs : s.size ≤ maxLen) (he : Env w) :
    Calls Tryd.prog 3 #[.string s] w fun e w' => e = .returned (.bool true) ∧ Below w.heap.size w w' := by
  by_cases hbig : 20000 < s.size
  · unfold maxLen at hs
    go_enter Tryd.func3, Tryd.ntmps3
    go_wp2_with (refine (lknown_any _ he).mono ?_; rintro e w' ⟨rfl, b⟩)
    go_ret
    exact ⟨rfl, b⟩
  · obtain ⟨a, ha⟩ : ∃ a, isWord s.data.toList = a := ⟨_, rfl⟩
    obtain ⟨b, hb⟩ : ∃ b, isName s.data.toList = b := ⟨_, rfl⟩
    obtain ⟨c, hc⟩ : ∃ c, isMark s.data.toList = c := ⟨_, rfl⟩
    have way : (a = false ∧ b = false ∧ c = false) ∨ (a = true ∧ b = false ∧ c = false) ∨ (a = false ∧ b = true ∧ c = false) ∨ (a = false ∧ b = false ∧ c = true) := by
      cases a
      · cases c
        · cases b <;> simp
        · have := not_nm hc
          rw [hb] at this; subst this; simp
      · have h1 := not_wn ha
        have h2 := not_wm ha
        rw [hb] at h1; rw [hc] at h2; subst h1; subst h2; simp
    have HA := hide ha
    have HB := hide hb
    have HC := hide hc
    have HZ := hide hs
    have hs' : s.size ≤ 20000 := by omega
    clear ha hb hc hs
    rcases way with ⟨rfl, rfl, rfl⟩ | ⟨rfl, rfl, rfl⟩ | ⟨rfl, rfl, rfl⟩ | ⟨rfl, rfl, rfl⟩
    all_goals
      go_enter Tryd.func3, Tryd.ntmps3
      go_wp2_with fail
      refine (Word_any s w).mono ?_
      rw [HA.out]
      rintro e w1 ⟨rfl, rfl⟩
      go_wp2_with fail
      refine (Name_any s HZ.out w).mono ?_
      rw [HB.out]
      rintro e w2 ⟨rfl, b2⟩
      go_wp2_with fail
      refine (Mark_any s w2).mono ?_
      rw [HC.out]
      rintro e w3 ⟨rfl, rfl⟩
      go_wp2_with fail
      refine (rWord_any s w2).mono ?_
      rw [HA.out]
      rintro e w4 ⟨rfl, b4⟩
      have c4 := b2.trans (b4.mono b2.size)
      go_wp2_with fail
      refine (rName_any s HZ.out w4).mono ?_
      rw [HB.out]
      rintro e w5 ⟨rfl, b5⟩
      have c5 := c4.trans (b5.mono c4.size)
      go_wp2_with fail
      refine (rMark_any s w5).mono ?_
      rw [HC.out]
      rintro e w6 ⟨rfl, b6⟩
      have c6 := c5.trans (b6.mono c5.size)
      have he6 := he.keep c6
      clear b2 b4 b5 b6 c4 c5 he
      go_wp2_with fail
      refine (lknown_any w6 he6).mono ?_
      rintro e w7 ⟨rfl, b7⟩
      go_wp2
      go_ret
      exact ⟨rfl, c6.trans (b7.mono c6.size)⟩
end Go.Proofs.YtbcgofmhplgfbaaDoor
