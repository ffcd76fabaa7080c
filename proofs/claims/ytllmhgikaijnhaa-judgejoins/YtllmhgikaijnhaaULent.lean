/-
  Contracts: the reference's Lent and Same; what must come of fixed calls (known).
-/
import Derived.Test.YtllmhgikaijnhaaURef2
namespace Go.Proofs.Ytllmhgikaijnhaa
open Go.RowKit
set_option maxHeartbeats 1000000

theorem ownI_nil (w : World) (base : Nat) : w.ownsRow base 40 2 (.slice none 0 0) 0 (csI []) := World.ownsRow_nil _ _ _ _
def LentI (w : World) (n : Nat) (l : List (Int × Int)) (e : Ending) (w' : World) : Prop :=
  ∃ A c, e = .returned (.slice A n c) ∧ w'.ownsRow w.heap.size 40 2 (.slice A n c) n (csI l) ∧ Below w.heap.size w w'
theorem rLent_any (B : Nat) (A : Option Addr) (n c : Nat) (l : List (Int × Int)) (w : World) (hr : RowI w B A n c l) (hl : n ≤ 1099511627776) :
    Calls Try.prog 9 #[.slice A n c] w (LentI w n l) := by
  go_enter Try.func9, Try.ntmps9
  go_wp2_with (at_builtin; refine wpList_append_ins rfl (.tmp 4) (.tmp 5) rfl w.heap.size _ 0 [] rfl (ownI_nil _ _) B _ _ _ l rfl hr (by omega) w (Below.refl _ _) (Nat.le_refl _) ?_; intro A2 c2 w2 ho2 hb2 hg2; simp only [Nat.zero_add, List.nil_append] at ho2)
  go_ret
  exact ⟨A2, c2, by simp, ho2, hb2⟩
theorem rSame_any (B B' : Nat) (A A' : Option Addr) (n n' c c' : Nat) (l : List (Int × Int)) (w : World) (hr : RowI w B A n c l) (hr' : RowI w B' A' n' c' l) :
    Calls Try.prog 14 #[.slice A n c, .slice A' n' c'] w (Drew true w) := by
  obtain rfl : n' = n := by have h1 := hr.len; have h2 := hr'.len; omega
  have hn := hr.len
  subst hn
  have hm := hr.max
  have hcap := hr.cap
  unfold maxLen at hm
  go_enter Try.func14, Try.ntmps14
  go_wp2
  go_loopw [5] (fun i wr => ∃ j k : Nat, j ≤ l.length ∧ i = .int .i64 (j : Int) ∧ wr = w.drewN k) (fun i _ => l.length - (intOf i).toNat)
  case atStart => exact ⟨0, 0, Nat.zero_le _, rfl, rfl⟩
  case round =>
    obtain ⟨j, k, hj, rfl, rfl⟩ := hrel
    by_cases hlt : j < l.length
    · obtain ⟨b, o, y, x, rfl, _, hu, hc0, hc1, _⟩ := hr.get hlt
      obtain ⟨b', o', y', x', rfl, _, hu', hc0', hc1', _⟩ := hr'.get hlt
      rw [hu] at hu'
      injection hu' with hu'
      injection hu' with h1 h2
      subst h1
      subst h2
      have hi1 : (j : Int) < (l.length : Int) := by omega
      clear hu hr hr'
      go_wp2
      go_quiet (fail)
      go_wp2
      go_roundw
      case rel => exact ⟨j + 1, k + nq, by omega, by go_num, by first | rfl | exact World.drewN_drewN⟩
      case measure => simp [intOf]; omega
    · obtain rfl : j = l.length := by omega
      go_wp2
      go_ret
      exact ⟨k, rfl, rfl⟩
theorem checked_is {w w' : World} {r : Int × Int × Int × Int} {e : Ending} {D F er at_ : Int} (h : Checked w r e w') (hr : r = (D, F, er, at_)) : e = .returned (.tuple #[.agg #[.int .i64 D, .int .i64 F], .int .i64 er, .int .i64 at_]) ∧ Below w.heap.size w w' := by subst hr; exact h
theorem rowI_lit (w : World) (l : List (Int × Int)) (n : Nat) (hn : l.length = n) (hm : n ≤ maxLen) (cs : Array Value) (hc : cs.toList = csI l) (hok : ∀ i ∈ l, okI i) : RowI (w.alloc (.cells cs 40)) (w.heap.size + 1) (some ⟨w.heap.size, 0, none⟩) n n l :=
  ⟨hn, Nat.le_refl _, hm, (fun h => by cases h), (fun _ => ⟨w.heap.size, 0, rfl, by omega, fun j v hv => by
    have e : (w.alloc (.cells cs 40)).heap[w.heap.size]? = some (.cells cs 40) := heap_alloc_new w _
    rw [Nat.zero_add, cell_of_row _ _ _ _ _ _ e]
    rw [← hc] at hv
    simpa using hv⟩), hok⟩
theorem rowI_lit2 (w : World) (C : Obj) (l : List (Int × Int)) (n : Nat) (hn : l.length = n) (hm : n ≤ maxLen) (cs : Array Value) (hc : cs.toList = csI l) (hok : ∀ i ∈ l, okI i) : RowI ((w.alloc C).alloc (.cells cs 40)) (w.heap.size + 2) (some ⟨w.heap.size + 1, 0, none⟩) n n l := by
  have := rowI_lit (w.alloc C) l n hn hm cs hc hok
  simpa using this
theorem known_one : checkM ⟨0, 0, 0, 1, 1⟩ [(6, 0), (11, 2), (1, 7), (7, 0)] = (1, 4, 0, 0) := by decide +kernel
theorem known_two : checkM ⟨0, 0, 0, 1, 1⟩ [(1, 1)] = (0, 0, 12, 1) := by decide +kernel
theorem known_frame : frmE ⟨0, 0, 0, 1, 1⟩ = 0 := by decide
theorem known_any (w : World) : Calls Try.prog 8 #[] w fun e w' => e = .returned (.bool true) ∧ Below w.heap.size w w' := by
  go_enter Try.func8, Try.ntmps8
  go_wp2_with fail
  have bF := (Blk.new w 24 [.int .i64 0, .int .i64 0, .int .i64 0, .int .i64 1, .int .i64 1]).alloc (.cells #[.int .i64 6, .int .i32 0, .int .i64 11, .int .i32 2, .int .i64 1, .int .i32 7, .int .i64 7, .int .i32 0] 40)
  have hb1 := ((Below.refl _ w).alloc (Nat.le_refl _) (.cells #[.int .i64 0, .int .i64 0, .int .i64 0, .int .i64 1, .int .i64 1] 24)).alloc (by simp) (.cells #[.int .i64 6, .int .i32 0, .int .i64 11, .int .i32 2, .int .i64 1, .int .i32 7, .int .i64 7, .int .i32 0] 40)
  have hR := rowI_lit2 w (.cells #[.int .i64 0, .int .i64 0, .int .i64 0, .int .i64 1, .int .i64 1] 24) [(6, 0), (11, 2), (1, 7), (7, 0)] 4 rfl (by unfold maxLen; omega) #[.int .i64 6, .int .i32 0, .int .i64 11, .int .i32 2, .int .i64 1, .int .i32 7, .int .i64 7, .int .i32 0] rfl (by simp [okI])
  have hsz : ((w.alloc (.cells #[.int .i64 0, .int .i64 0, .int .i64 0, .int .i64 1, .int .i64 1] 24)).alloc (.cells #[.int .i64 6, .int .i32 0, .int .i64 11, .int .i32 2, .int .i64 1, .int .i32 7, .int .i64 7, .int .i32 0] 40)).heap.size = w.heap.size + 2 := by simp
  generalize (w.alloc (.cells #[.int .i64 0, .int .i64 0, .int .i64 0, .int .i64 1, .int .i64 1] 24)).alloc (.cells #[.int .i64 6, .int .i32 0, .int .i64 11, .int .i32 2, .int .i64 1, .int .i32 7, .int .i64 7, .int .i32 0] 40) = w1 at bF hb1 hR hsz ⊢
  refine (Check_any ⟨0, 0, 0, 1, 1⟩ (w.heap.size + 2) _ 4 4 [(6, 0), (11, 2), (1, 7), (7, 0)] w1 hR (by omega)).mono ?_
  intro e w2 hk
  obtain ⟨rfl, hb2⟩ := checked_is hk known_one
  have bF2 := bF.keep hb2 bF.lt
  have cf0 := bF2.cell (j := 0) rfl
  have cf1 := bF2.cell (j := 1) rfl
  have cf2 := bF2.cell (j := 2) rfl
  have cf3 := bF2.cell (j := 3) rfl
  have cf4 := bF2.cell (j := 4) rfl
  have hb02 := hb1.trans (hb2.mono hb1.size)
  have lF := bF2.lt
  clear hk hb2 bF hb1 hR hsz
  go_wp2_with fail
  have hR := rowI_lit2 w2 (.cells #[.int .i64 1, .int .i64 4] 28) [(1, 1)] 1 rfl (by unfold maxLen; omega) #[.int .i64 1, .int .i32 1] rfl (by simp [okI])
  have bF3 := (bF2.alloc (.cells #[.int .i64 1, .int .i64 4] 28)).alloc (.cells #[.int .i64 1, .int .i32 1] 40)
  have bP := (Blk.new w2 28 [.int .i64 1, .int .i64 4]).alloc (.cells #[.int .i64 1, .int .i32 1] 40)
  have hb3 := (hb02.alloc hb02.size (.cells #[.int .i64 1, .int .i64 4] 28)).alloc (by have := hb02.size; simp; omega) (.cells #[.int .i64 1, .int .i32 1] 40)
  have hsz : ((w2.alloc (.cells #[.int .i64 1, .int .i64 4] 28)).alloc (.cells #[.int .i64 1, .int .i32 1] 40)).heap.size = w2.heap.size + 2 := by simp
  generalize (w2.alloc (.cells #[.int .i64 1, .int .i64 4] 28)).alloc (.cells #[.int .i64 1, .int .i32 1] 40) = w3 at bF3 bP hb3 hR hsz ⊢
  clear cf0 cf1 cf2 cf3 cf4 lF bF2 hb02
  refine (Check_any ⟨0, 0, 0, 1, 1⟩ (w2.heap.size + 2) _ 1 1 [(1, 1)] w3 hR (by omega)).mono ?_
  intro e w4 hk
  obtain ⟨rfl, hb4⟩ := checked_is hk known_two
  have bF4 := bF3.keep hb4 bF3.lt
  have bP4 := bP.keep hb4 bP.lt
  have cf0 := bF4.cell (j := 0) rfl
  have cf1 := bF4.cell (j := 1) rfl
  have cf2 := bF4.cell (j := 2) rfl
  have cf3 := bF4.cell (j := 3) rfl
  have cf4 := bF4.cell (j := 4) rfl
  have cp0 := bP4.cell (j := 0) rfl
  have cp1 := bP4.cell (j := 1) rfl
  have lF := bF4.lt
  have lP := bP4.lt
  have hb04 := hb3.trans (hb4.mono hb3.size)
  have HB := hide hb04
  clear hk hb4 bF3 bP hb3 hR hsz hb04
  go_wp2_with (go_at_call 12; refine (Frame_any ⟨0, 0, 0, 1, 1⟩ _).mono ?_; rw [known_frame]; rintro e w5 ⟨rfl, hb5⟩)
  go_ret
  exact ⟨rfl, (HB.out.alloc HB.out.size _).trans (hb5.mono (by have := HB.out.size; simp; omega))⟩
end Go.Proofs.Ytllmhgikaijnhaa
