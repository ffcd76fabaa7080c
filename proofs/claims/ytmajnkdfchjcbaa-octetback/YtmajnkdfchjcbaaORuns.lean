/-
  The statement OctetRuns: the call returns true and changes nothing that was there.
-/
import Derived.Test.YtmajnkdfchjcbaaOPuts
namespace Go.Proofs.Ytmajnkdfchjcbaa
open Go.RowKit
set_option maxHeartbeats 800000

theorem prL_len (l x : List UInt8) : (prL l x).length ≤ l.length + 2 + x.length := by
  unfold prL
  by_cases h : x.length ≤ 65535
  · rw [if_pos h, List.length_append, List.length_append, leB_len]; omega
  · rw [if_neg h]; simp
theorem grL_len (l : List UInt8) (a : Int) : (grL l a).length ≤ l.length := by
  unfold grL
  by_cases h : grE l a = 0
  · rw [if_pos h]; simp; omega
  · rw [if_neg h]; simp
theorem Row.lent {w : World} {B g n c : Nat} {l : List UInt8} (hk : Row w B (some ⟨g, 0, none⟩) (n + 1) c (cs8 (l ++ [77]))) : Row w B (some ⟨g, 0, none⟩) n c (cs8 l) := by
  have hn : l.length = n := by have := hk.len; rw [cs8_len] at this; simpa using this
  have hp := hk.pre (b := n) (by omega)
  rwa [cs8_snoc, List.take_left' (by rw [cs8_len]; exact hn)] at hp
theorem Row.str8 {w : World} {B n c : Nat} {A : Option Addr} {l : List UInt8} (h : Row w B A n c (cs8 l)) : (convert 22 9 (.slice A n c)).run Try.prog w = .ok (.string ⟨l.toArray⟩) w :=
  h.str (P := Try.prog) Try.underlying22 Try.underlying5 Try.underlying9
theorem runs_walk (A : Option Addr) (n c : Nat) (l : List UInt8) (A' : Option Addr) (n' c' : Nat) (x : List UInt8) (a : Int) (w : World) (hr : Row w w.heap.size A n c (cs8 l)) (hx : Row w w.heap.size A' n' c' (cs8 x)) (_ha : (Lit.int .i64 a).wf = true) :
    Calls Try.prog 5 #[.slice A n c, .slice A' n' c', .int .i64 a] w fun e w' => e = .returned (.bool true) ∧ Below w.heap.size w w' := by
  by_cases hbig : 1048576 < n
  · have hd : decide ((1048576 : Int) < (n : Int)) = true := by simp; omega
    go_enter Try.func5, Try.ntmps5
    go_wp2_with (go_at_call 10; refine (known_any _).mono ?_; rintro e w1 ⟨rfl, hb1⟩)
    go_ret
    exact ⟨rfl, hb1⟩
  have hd : decide ((1048576 : Int) < (n : Int)) = false := by simp; omega
  by_cases hbig' : 1048576 < n'
  · have hd : decide ((1048576 : Int) < (n' : Int)) = true := by simp; omega
    go_enter Try.func5, Try.ntmps5
    go_wp2_with (go_at_call 10; refine (known_any _).mono ?_; rintro e w1 ⟨rfl, hb1⟩)
    go_ret
    exact ⟨rfl, hb1⟩
  have hd' : decide ((1048576 : Int) < (n' : Int)) = false := by simp; omega
  have hl : l.length ≤ 1048576 := by have := hr.len; rw [cs8_len] at this; omega
  have hxl : x.length ≤ 1048576 := by have := hx.len; rw [cs8_len] at this; omega
  go_enter Try.func5, Try.ntmps5
  go_wp2_with fail
  refine (Lent_any w.heap.size A n c l w hr (by omega)).mono ?_
  rintro e w1 ⟨g1, c1, rfl, ho1, hb1⟩
  have hs1 := hb1.size
  have hk1 := Row.of_own ho1
  go_wp2_with fail
  refine (Lent_any w.heap.size A' n' c' x w1 (hx.keep hb1 (Nat.le_refl _)) (by omega)).mono ?_
  rintro e w2 ⟨g2, c2, rfl, ho2, hb2⟩
  have hs2 := hb2.size
  have hb02 : Below w.heap.size w w2 := hb1.trans (hb2.mono hs1)
  have hk1 := (hk1.keep hb2 (Nat.le_refl _)).more hs2
  have hk2 := Row.of_own ho2
  go_wp2_with fail
  refine (PutRun_any w2.heap.size _ _ _ l _ _ _ x w2 hk1.lent hk2.lent (Nat.le_refl _) (by omega)).mono ?_
  rintro e w3 ⟨A3, n3, c3, rfl, ho3, hb3⟩
  have hs3 := hb3.size
  have hlt3 : ∀ k, (Value.slice A3 n3 c3).ownBlock = some k → k < w3.heap.size := fun k hk => (ho3.lt k hk).2
  have hb03 : Below w.heap.size w w3 := hb02.trans (hb3.mono (by omega))
  have hn3 : n3 ≤ 1099511627776 := by have h1 := own8_len ho3; have h2 := prL_len l x; omega
  go_wp2_with fail
  refine (rPutRun_any w.heap.size _ _ _ l _ _ _ x w3 (hr.keep hb03 (Nat.le_refl _)) (hx.keep hb03 (Nat.le_refl _)) (by omega) (by omega)).mono ?_
  rintro e w4 ⟨A4, n4, c4, rfl, ho4, hb4⟩
  have hs4 := hb4.size
  have hb04 : Below w.heap.size w w4 := hb03.trans (hb4.mono (by omega))
  have hk1 := (hk1.keep hb3 (Nat.le_refl _)).keep hb4 hs3
  have hk2 := (hk2.keep hb3 (Nat.le_refl _)).keep hb4 hs3
  have ho3 := own_keep ho3 hb4
  go_wp2_with fail
  refine (GetRun_any w2.heap.size _ _ _ l _ w4 hk1.lent (by omega) (by omega)).mono ?_
  rintro e w5 ⟨A5, n5, c5, rfl, ho5, hb5⟩
  have hs5 := hb5.size
  have hb05 : Below w.heap.size w w5 := hb04.trans (hb5.mono (by omega))
  have hn5 : n5 ≤ 1099511627776 := by have h1 := own8_len ho5; have h2 := grL_len l a; omega
  go_wp2_with fail
  refine (rGetRun_any w.heap.size _ _ _ l _ w5 (hr.keep hb05 (Nat.le_refl _)) (by omega) (by omega)).mono ?_
  rintro e w6 ⟨A6, n6, c6, rfl, ho6, hb6⟩
  have hs6 := hb6.size
  have hb06 : Below w.heap.size w w6 := hb05.trans (hb6.mono (by omega))
  have hk1 := (hk1.keep hb5 (by omega)).keep hb6 (by omega)
  have hk2 := (hk2.keep hb5 (by omega)).keep hb6 (by omega)
  have ho3 := own_keep (own_keep ho3 hb5) hb6
  have ho4 := own_keep (own_keep ho4 hb5) hb6
  have ho5 := own_keep ho5 hb6
  have q3 := (Row.of_own ho3).str8
  have q4 := (Row.of_own ho4).str8
  have q5 := (Row.of_own ho5).str8
  have q6 := (Row.of_own ho6).str8
  go_wp2_with fail
  refine (Spoil_any _ _ _ _ _ _ ho3 (by omega) hn3).mono ?_
  rintro e w7 ⟨rfl, hg7⟩
  have hb7 := grown_below hg7 ho3 (by omega)
  have hs7 := hb7.size
  have ho5 := own_apart ho5 hg7 hlt3 hs4
  go_wp2_with fail
  refine (Spoil_any _ _ _ _ _ _ ho5 (by omega) hn5).mono ?_
  rintro e w8 ⟨rfl, hg8⟩
  have hb8 := grown_below hg8 ho5 (by omega)
  have hs8 := hb8.size
  have hb08 : Below w.heap.size w w8 := (hb06.trans (hb7.mono (by omega))).trans (hb8.mono (by omega))
  have hk1 := (hk1.keep hb7 (by omega)).keep hb8 (by omega)
  have hk2 := (hk2.keep hb7 (by omega)).keep hb8 (by omega)
  have hr8 := hr.keep hb08 (Nat.le_refl _)
  have hx8 := hx.keep hb08 (Nat.le_refl _)
  go_wp2_with fail
  refine (Kept_any w.heap.size w2.heap.size _ _ _ _ _ l _ hk1 hr8 (by omega)).mono ?_
  rintro e w' ⟨rfl, rfl⟩
  go_wp2_with fail
  refine (Kept_any w.heap.size w2.heap.size _ _ _ _ _ x _ hk2 hx8 (by omega)).mono ?_
  rintro e w' ⟨rfl, rfl⟩
  go_wp2_with (go_at_call 10; refine (known_any _).mono ?_; rintro e w9 ⟨rfl, hb9⟩)
  go_ret
  exact ⟨rfl, hb08.trans (hb9.mono (by omega))⟩
end Go.Proofs.Ytmajnkdfchjcbaa
