/-
  The statement OctetWords: the call returns true and changes nothing that was there.
-/
import Derived.Test.YtmajnkdfchjcbaaORuns
import Derived.Deep.RegionWith
import Derived.BigRegion
namespace Go.Proofs.Ytmajnkdfchjcbaa
open Go.RowKit
set_option maxHeartbeats 1600000

theorem Row.of_drew {w : World} {B n c : Nat} {A : Option Addr} {xs : List Value} (h : Row w B A n c xs) : Row w.drew B A n c xs := h.keep ((Below.refl B w).drew) (Nat.le_refl _)
theorem calm {P : Program} {f : FuncId} {args : Array Value} {w : World} {n : Nat} {v : Value} (h : Calls P f args (w.drewN n) fun e w' => e = .returned v ∧ w.drewN n = w') : Calls P f args (w.drewN n) fun e w'' => e = .returned v ∧ ∃ m, w'' = w.drewN m :=
  h.mono fun _ _ ⟨he, hm⟩ => ⟨he, n, hm.symm⟩
theorem back32 {a : Int} (h1 : -2147483648 ≤ a) (h2 : a ≤ 2147483647) : wrap32 (a % 4294967296) = a := by unfold wrap32; omega
theorem Signed_int (v : Int) (w : World) : Calls Try.prog 29 #[.int .u32 v] w fun e w' => e = .returned (.int .i32 (wrap32 v)) ∧ w = w' := by
  go_enter Try.func29, Try.ntmps29
  go_wp2
  go_ret
  exact ⟨rfl, rfl⟩
theorem Signed_back (a : Int) (w : World) (h1 : -2147483648 ≤ a) (h2 : a ≤ 2147483647) : Calls Try.prog 29 #[.int .u32 (a % 4294967296)] w fun e w' => e = .returned (.int .i32 a) ∧ w = w' := by
  refine (Signed_int _ w).mono ?_
  rintro e w' ⟨rfl, rfl⟩
  exact ⟨ret_int (back32 h1 h2), rfl⟩
theorem words_walk (A : Option Addr) (n c : Nat) (l : List UInt8) (A' : Option Addr) (n' c' : Nat) (ws : List UInt32) (a : Int) (w : World) (hr : Row w w.heap.size A n c (cs8 l)) (hx : Row w w.heap.size A' n' c' (cs32 ws)) (ha : (Lit.int .i32 a).wf = true) :
    Calls Try.prog 6 #[.slice A n c, .slice A' n' c', .int .i32 a] w fun e w' => e = .returned (.bool true) ∧ Below w.heap.size w w' := by
  have ha1 := (wf_i32 ha).1
  have ha2 := (wf_i32 ha).2
  clear ha
  by_cases hbig : 65536 < n
  · have hd : decide ((65536 : Int) < (n : Int)) = true := by simp; omega
    go_enter Try.func6, Try.ntmps6
    go_wp2_with (go_at_call 10; refine (known_any _).mono ?_; rintro e w1 ⟨rfl, hb1⟩)
    go_ret
    exact ⟨rfl, hb1⟩
  have hd : decide ((65536 : Int) < (n : Int)) = false := by simp; omega
  by_cases hbig' : 65536 < n'
  · have hd : decide ((65536 : Int) < (n' : Int)) = true := by simp; omega
    go_enter Try.func6, Try.ntmps6
    go_wp2_with (go_at_call 10; refine (known_any _).mono ?_; rintro e w1 ⟨rfl, hb1⟩)
    go_ret
    exact ⟨rfl, hb1⟩
  have hd' : decide ((65536 : Int) < (n' : Int)) = false := by simp; omega
  go_enter Try.func6, Try.ntmps6
  go_wp2_with fail
  refine (Lent_any w.heap.size A n c l w hr (by omega)).mono ?_
  rintro e w1 ⟨g1, c1, rfl, ho1, hb1⟩
  have hs1 := hb1.size
  have hk1 := Row.of_own ho1
  go_wp2_with fail
  refine (Words_any w1.heap.size _ _ _ l w1 hk1.lent (Nat.le_refl _) (by omega)).mono ?_
  rintro e w2 ⟨A2, n2, c2, rfl, ho2, hb2⟩
  have hs2 := hb2.size
  have hb02 : Below w.heap.size w w2 := hb1.trans (hb2.mono hs1)
  have hk2 := (hk1.keep hb2 (Nat.le_refl _))
  have hr2 := hr.keep hb02 (Nat.le_refl _)
  have hx2 := hx.keep hb02 (Nat.le_refl _)
  have hq2 := Row.of_own ho2
  go_wp2_with fail
  go_region_with (first
    | (go_at_call 24; refine (rWords_any w.heap.size _ _ _ l _ hr2.of_drew (by simp; omega) (by omega)).mono ?_; rintro e w3 ⟨A3, n3, c3, rfl, ho3, hb3⟩)
    | (go_at_call 23; refine (Same_any w2.heap.size w3.heap.size _ _ _ _ _ _ _ _ (hq2.of_drew.keep hb3 (Nat.le_refl _)) (Row.of_own ho3)).mono ?_; rintro e w4 ⟨k4, rfl, rfl⟩)
    | (go_at_call 14; refine (Kept_any w.heap.size w1.heap.size _ _ _ _ _ l _ ((hk2.of_drew.keep hb3 hs2).drewN k4) ((hr2.of_drew.keep hb3 (by simp; omega)).drewN k4) (by omega)).mono ?_; rintro e w' ⟨rfl, rfl⟩)
    | (go_at_call 25; refine (Bytes_any w.heap.size _ _ _ ws _ ((hx2.of_drew.keep hb3 (by simp; omega)).drewN k4) (by have := hb3.size; simp at this ⊢; omega) (by omega)).mono ?_; rintro e w5 ⟨A5, n5, c5, rfl, ho5, hb5⟩; have q5 := (Row.of_own ho5).str8)
    | (go_at_call 26; refine (rBytes_any w.heap.size _ _ _ ws _ (((hx2.of_drew.keep hb3 (by simp; omega)).drewN k4).keep hb5 (by have := hb3.size; simp at this ⊢; omega)) (by have h3 := hb3.size; have h5 := hb5.size; simp at h3 h5 ⊢; omega) (by omega)).mono ?_; rintro e w6 ⟨A6, n6, c6, rfl, ho6, hb6⟩; have q56 := ((Row.of_own ho5).keep hb6 (Nat.le_refl _)).str8; have q6 := (Row.of_own ho6).str8)
    | (go_at_call 27; refine (Plain_any _ _).mono ?_; rintro e w' ⟨rfl, rfl⟩)
    | (go_at_call 28; refine (rPlain_any _ _ ha1 ha2).mono ?_; rintro e w' ⟨rfl, rfl⟩))
  all_goals
    have hs3 := hb3.size
    have hs5 := hb5.size
    have hs6 := hb6.size
    rw [World.heap_drewN] at hs5 hb5
    rw [show w2.drew.heap = w2.heap from rfl] at hs3 hb3
    have hb06 : Below w.heap.size w w6 := (((hb02.drew.trans (hb3.mono (by omega))).trans (below_drewN _ _ k4)).trans (hb5.mono (by omega))).trans (hb6.mono (by omega))
    clear hb3 hb5 hb6 q5 q56 q6 ho3 ho5 ho6 hq2 hk2 hr2 hx2 ho1 ho2 hk1
    go_wp2_with fail
    go_loopw [9, 10] (fun s i wr => ∃ j : Nat, j ≤ n' ∧ i = .int .i64 (j : Int) ∧ s = .bool true ∧ Below w.heap.size w wr) (fun _ i _ => n' - (intOf i).toNat)
    case atStart => exact ⟨0, Nat.zero_le _, rfl, rfl, hb06⟩
    case round =>
      clear hb06
      obtain ⟨j, hj, rfl, rfl, hb⟩ := hrel
      have hbs := hb.size
      by_cases hlt : j < n'
      · obtain ⟨b, o, u, hA, _, hu, hcell⟩ := (hx.keep hb (Nat.le_refl _)).get hlt
        have hjw : j < ws.length := by have := hx.len; rw [cs32_len] at this; omega
        rw [cs32_at hjw] at hu
        obtain rfl := Option.some.inj hu
        subst hA
        clear hu
        have hi1 : (j : Int) < (n' : Int) := by omega
        go_wp2
        go_quiet ((first | (go_at_call 29; exact calm (Signed_any _ _)) | (go_at_call 30; exact calm (rSigned_any _ _))))
        go_wp2
        go_roundw
        case rel => exact ⟨j + 1, by omega, by go_num, rfl, hb.trans (below_drewN _ _ _)⟩
        case measure => simp [intOf]; omega
      · go_wp2_with (first
          | (go_at_call 27; refine (Plain_any _ _).mono ?_; rintro e w' ⟨rfl, rfl⟩)
          | (go_at_call 29; refine (Signed_back a _ ha1 ha2).mono ?_; rintro e w' ⟨rfl, rfl⟩)
          | (go_at_call 10; refine (known_any _).mono ?_; rintro e w9 ⟨rfl, hb9⟩))
        go_ret
        exact ⟨rfl, hb.trans (hb9.mono hbs)⟩
end Go.Proofs.Ytmajnkdfchjcbaa
