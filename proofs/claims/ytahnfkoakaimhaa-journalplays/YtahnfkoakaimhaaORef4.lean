/-
  Contracts of the reference of layer 2 (midstreamref02): Bytes, Signed, Plain, Lent, Kept, Spoil, Same.
-/
import Derived.Test.YtahnfkoakaimhaaORef3
namespace Go.Proofs.Ytahnfkoakaimhaa
open Go.RowKit
set_option maxHeartbeats 400000

/-- A row of the call's own that lies ahead of what is new stays as it is. -/
theorem own_keep {w w' : World} {base : Nat} {e : TypeId} {v : Value} {n : Nat} {xs : List Value} (h : w.ownsRow base e 1 v n xs) (hb : Below w.heap.size w w') : w'.ownsRow base e 1 v n xs := by
  refine ⟨h.1, ?_⟩
  rcases h.2 with h2 | ⟨g, cap, cur, hv, hg, hh, r⟩
  · exact .inl h2
  · exact .inr ⟨g, cap, cur, hv, hg, (hb.block g (Array.getElem?_eq_some_iff.1 hh).1).trans hh, r⟩
theorem rBytes_any (B : Nat) (A : Option Addr) (n c : Nat) (ws : List UInt32) (w : World) (hr : Row w B A n c (cs32 ws)) (hB : B ≤ w.heap.size) (hl : n ≤ 137438953472) :
    Calls Try.prog 45 #[.slice A n c] w (LayPost w.heap.size w (bytesL ws)) := by
  obtain ⟨i0, hi, hz0, hz1, hz2⟩ := info_parts info8
  have hn := hr.len
  rw [cs32_len] at hn
  subst hn
  go_enter Try.func45, Try.ntmps45
  go_wp2
  go_loopw [3, 4] (fun s i wr => ∃ (j : Nat) (A' : Option Addr) (n' c' : Nat), j ≤ ws.length ∧ i = .int .i64 (j : Int) ∧ s = .slice A' n' c' ∧ wr.ownsRow w.heap.size 5 1 (.slice A' n' c') n' (cs8 (bytesL (ws.take j))) ∧ Below w.heap.size w wr) (fun _ i _ => ws.length - (intOf i).toNat)
  case atStart => exact ⟨0, _, _, _, Nat.zero_le _, rfl, rfl, World.ownsRow_nil _ _ _ _, Below.refl _ _⟩
  case round =>
    obtain ⟨j, A', n', c', hj, rfl, rfl, ho, hb⟩ := hrel
    have hbs := hb.size
    by_cases hlt : j < ws.length
    · have HE := hide (bytes_take ws j hlt)
      have hnl : n' ≤ 549755813888 := by
        have h1 := own8_len ho
        rw [bytesL_len, List.length_take] at h1
        omega
      obtain ⟨b, o, u, rfl, _, hu, hcell⟩ := (hr.keep hb hB).get hlt
      rw [cs32_at hlt] at hu
      obtain rfl := Option.some.inj hu
      clear hu
      have hwl := ws[j].toNat_lt
      go_wp2_with fail
      refine (digits_any ws[j].toNat 4 _ rfl _ (by omega) (by omega)).mono ?_
      rintro e w2 ⟨A2, n2, c2, x, rfl, HX, ho2, hb2⟩
      have hs2 := hb2.size
      have hn2 : n2 = 4 := by have := own8_len ho2; rw [leB_len] at this; omega
      subst hn2
      go_wp2_with (at_builtin; refine wpList_append_row rfl (.tmp 22) (.tmp 23) 84 rfl w.heap.size 5 i0 _ 1 Try.underlying84 hi hz0 hz1 hz2 rfl _ _ _ rfl (own_keep ho hb2) w2.heap.size _ _ _ _ rfl (Row.of_own ho2) (cs8_one _) (by unfold maxLen; omega) (by omega) w (hb.trans (hb2.mono hbs)) (Nat.le_refl _) ?_; intro A3 c3 w3 ho3 hb3 hg3)
      go_roundw
      case rel => exact ⟨j + 1, A3, _, c3, by omega, by go_num, rfl, by rw [← HE.out, cs8_app]; exact ho3, hb3⟩
      case measure => simp [intOf]; omega
    · obtain rfl : j = ws.length := by omega
      go_wp2
      go_ret
      exact ⟨A', n', c', rfl, by rw [List.take_length] at ho; exact ho, hb⟩
end Go.Proofs.Ytahnfkoakaimhaa
