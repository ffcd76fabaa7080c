/-
  The walk of WrapTexts: it returns true, and turns nothing that was there.
-/
import Derived.Test.YtpbjlnlkegefjaaDoorWRRead
namespace Go.Proofs.YtpbjlnlkegefjaaDoor
open Go.RowKit
set_option maxHeartbeats 400000

theorem read1_yes {a : Int} (h1 : -2147483648 ≤ a) (h2 : a ≤ 2147483647) {r : Int} {b : Bool} (h : Read1 ⟨(Lib.itoa a).toArray⟩ r b) : r = a ∧ b = true := by
  have hg : gath ⟨(Lib.itoa a).toArray⟩ 11 = a.natAbs := by
    unfold gath
    rw [show (⟨(Lib.itoa a).toArray⟩ : ByteArray).data.toList = Lib.itoa a by simp, List.take_of_length_le (itoa_length h1 h2), gather_itoa]
  have hn : numV ⟨(Lib.itoa a).toArray⟩ = a := by
    by_cases h0 : a < 0
    · rw [numV_m (by unfold minus; simp [itoa_head_neg h0]), hg]
      exact (wrap_eq h1 h2 (by omega)).symm
    · obtain ⟨c, t, e, hc⟩ := itoa_head_pos h0
      rw [numV_p (by unfold minus; simp [e]; intro h; apply hc; rw [h]; rfl), hg]
      exact (wrap_eq h1 h2 (by omega)).symm
  rcases h with ⟨_, _, rfl, rfl⟩ | ⟨h, _, _⟩
  · exact ⟨hn, rfl⟩
  · rcases h with h | h
    · omega
    · rw [hn] at h
      exact absurd rfl h
theorem read1_no {s : ByteArray} (hn : NoNum s) {r : Int} {b : Bool} (h : Read1 s r b) : r = 0 ∧ b = false := by
  rcases h with ⟨_, h, _, _⟩ | ⟨_, rfl, rfl⟩
  · exact absurd h (hn _ (numV_bd s).1 (numV_bd s).2)
  · exact ⟨rfl, rfl⟩
theorem rread_yes (a : Int) (h1 : -2147483648 ≤ a) (h2 : a ≤ 2147483647) (w : World) :
    Calls Tryd.prog 21 #[.string ⟨(Lib.itoa a).toArray⟩] w fun e w' => e = .returned (.tuple #[.int .i32 a, .bool true]) ∧ Below w.heap.size w w' := by
  refine (rread_any _ (Nat.le_trans (size_itoa h1 h2) (by decide)) w).mono fun e w' ⟨r, b, he, hr, hb⟩ => ?_
  obtain ⟨rfl, rfl⟩ := read1_yes h1 h2 hr
  exact ⟨he, hb⟩
theorem rread_no (s : ByteArray) (hs : s.size ≤ 1000) (hn : NoNum s) (w : World) :
    Calls Tryd.prog 21 #[.string s] w fun e w' => e = .returned (.tuple #[.int .i32 0, .bool false]) ∧ Below w.heap.size w w' := by
  refine (rread_any _ hs w).mono fun e w' ⟨r, b, he, hr, hb⟩ => ?_
  obtain ⟨rfl, rfl⟩ := read1_no hn hr
  exact ⟨he, hb⟩
/-- Both read alike. -/
def Both (s : ByteArray) (m : Int) (ok : Bool) : Prop :=
  (∀ w, Env w → Calls Tryd.prog 20 #[.string s] w fun e w' => e = .returned (.tuple #[.int .i32 m, .bool ok]) ∧ Below w.heap.size w w') ∧
  (∀ w, Calls Tryd.prog 21 #[.string s] w fun e w' => e = .returned (.tuple #[.int .i32 m, .bool ok]) ∧ Below w.heap.size w w')
theorem both (s : ByteArray) (hs : s.size ≤ 1000) : ∃ m ok, Both s m ok := by
  by_cases h : ∃ a : Int, -2147483648 ≤ a ∧ a ≤ 2147483647 ∧ (⟨(Lib.itoa a).toArray⟩ : ByteArray) = s
  · obtain ⟨a, h1, h2, rfl⟩ := h
    exact ⟨a, true, fun w he => read_yes a h1 h2 w he.tab, fun w => rread_yes a h1 h2 w⟩
  · have hn : NoNum s := fun a h1 h2 e => h ⟨a, h1, h2, e⟩
    exact ⟨0, false, fun w he => read_no s hs hn w he, fun w => rread_no s hs hn w⟩

theorem texts_walk (a : Int) (s : ByteArray) (w : World) (ha : (Lit.int .i32 a).wf = true) (hs : s.size ≤ maxLen) (he : Env w) :
    Calls Tryd.prog 5 #[.int .i32 a, .string s] w fun e w' => e = .returned (.bool true) ∧ Below w.heap.size w w' := by
  obtain ⟨a1, a2⟩ := of_wf ha
  unfold maxLen at hs
  have ht := he.tab
  clear ha
  by_cases hl : 1000 < s.size
  · clear he
    go_enter Tryd.func5, Tryd.ntmps5
    go_wp2_with (go_at_call 13; refine (known_any _ ht).mono ?_; rintro e w' ⟨rfl, hb⟩)
    go_ret
    exact ⟨rfl, hb⟩
  · obtain ⟨m, ok, HB⟩ := both s (by omega)
    go_enter Tryd.func5, Tryd.ntmps5
    go_wp2_with fail
    refine (HB.1 w he).mono ?_
    rintro e w1 ⟨rfl, b1⟩
    have e1 := he.keep b1
    go_wp2_with fail
    refine (HB.2 w1).mono ?_
    rintro e w2 ⟨rfl, b2⟩
    have e2 := e1.keep b2
    have c2 := b1.trans (b2.mono b1.size)
    clear HB b1 b2 e1
    go_wp2_with fail
    refine (digits_any a a1 a2 w2 e2.tab).mono ?_
    rintro e w3 ⟨rfl, b3⟩
    have e3 := e2.keep b3
    have c3 := c2.trans (b3.mono c2.size)
    clear b3 e2 c2
    go_wp2_with fail
    refine (read_yes a a1 a2 w3 e3.tab).mono ?_
    rintro e w4 ⟨rfl, b4⟩
    have e4 := e3.keep b4
    have c4 := c3.trans (b4.mono c3.size)
    clear b4 e3 c3
    go_wp2_with fail
    refine (digits_any a a1 a2 w4 e4.tab).mono ?_
    rintro e w5 ⟨rfl, b5⟩
    have e5 := e4.keep b5
    have c5 := c4.trans (b5.mono c4.size)
    clear b5 e4 c4
    go_wp2_with fail
    refine (rdigits_any a w5 a1 a2).mono ?_
    rintro e w6 ⟨rfl, b6⟩
    have e6 := e5.keep b6
    have c6 := c5.trans (b6.mono c5.size)
    clear b6 e5 c5
    go_wp2_with fail
    refine (known_any w6 e6.tab).mono ?_
    rintro e w7 ⟨rfl, b7⟩
    have c7 := c6.trans (b7.mono c6.size)
    clear b7 c6
    go_wp2
    go_ret
    exact ⟨rfl, c7⟩
end Go.Proofs.YtpbjlnlkegefjaaDoor
