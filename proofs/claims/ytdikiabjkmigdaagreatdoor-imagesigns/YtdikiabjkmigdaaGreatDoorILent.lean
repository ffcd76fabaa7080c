/-
  Contracts: the reference's Lent, Same, Spoil; what must come of fixed calls (known).
-/
import Derived.Test.YtdikiabjkmigdaaGreatDoorIPkg4
namespace Go.Proofs.YtdikiabjkmigdaaGreatDoor
set_option maxRecDepth 20000
open Go.RowKit
set_option maxHeartbeats 1000000

def LentI (w : World) (n : Nat) (l : List (Int × Int)) (e : Ending) (w' : World) : Prop :=
  ∃ A c, e = .returned (.slice A n c) ∧ w'.ownsRow w.heap.size 56 2 (.slice A n c) n (csI l) ∧ Below w.heap.size w w'
theorem rSame_any (B B' : Nat) (A A' : Option Addr) (n n' c c' : Nat) (l : List (Int × Int)) (w : World) (hr : RowI w B A n c l) (hr' : RowI w B' A' n' c' l) :
    Calls Tryz.prog 21 #[.slice A n c, .slice A' n' c'] w (Drew true w) := by
  obtain rfl : n' = n := by have h1 := hr.len; have h2 := hr'.len; omega
  have hn := hr.len
  subst hn
  have hm := hr.max
  have hcap := hr.cap
  unfold maxLen at hm
  go_enter Tryz.func21, Tryz.ntmps21
  go_wp2
  go_loopw [5] (fun i wr => ∃ j k : Nat, j ≤ l.length ∧ i = .int .i64 (j : Int) ∧ wr = w.drewN k) (fun i _ => l.length - (intOf i).toNat)
  case atStart => exact ⟨0, 0, Nat.zero_le _, rfl, rfl⟩
  case round =>
    obtain ⟨j, k, hj, rfl, rfl⟩ := hrel
    by_cases hlt : j < l.length
    · obtain ⟨b, o, y, x, rfl, _, hu, hc0, hc1, _⟩ := hr.get hlt
      obtain ⟨b', o', y', x', rfl, _, hu', hc0', hc1', _⟩ := hr'.get hlt
      rw [hu] at hu'
      injection hu' with hu'
      injection hu' with h1 h2
      subst h1
      subst h2
      have hi1 : (j : Int) < (l.length : Int) := by omega
      clear hu hr hr'
      go_wp2
      go_quiet (fail)
      go_wp2
      go_roundw
      case rel => exact ⟨j + 1, k + nq, by omega, by go_num, by first | rfl | exact World.drewN_drewN⟩
      case measure => simp [intOf]; omega
    · obtain rfl : j = l.length := by omega
      go_wp2
      go_ret
      exact ⟨k, rfl, rfl⟩
-- what must come of fixed calls
theorem known_read : rdO [9, 1] 0 = 9 ∧ rdX [9, 1] 0 = 1 ∧ rdT [9, 1] 0 = 2 ∧ rdE [9, 1] 0 = 0 := by decide +kernel
theorem known_dec : decA [2, 5, 12] = ([], 9, 2) := by decide +kernel
theorem known_bytes : bytI 1 (-2) = [1, 254, 255, 255, 255] ∧ rgtE 1 (-2) = 0 := by decide +kernel
theorem irow_lit (w : World) (cs : Array Value) (e : TypeId) (n : Nat) (hn : cs.size = n) (hm : n ≤ maxLen) (xs : List Value) (hx : cs.toList = xs) :
    Row (w.alloc (.cells cs e)) (w.heap.size + 1) (some ⟨w.heap.size, 0, none⟩) n n xs :=
  ⟨by subst hx; simpa using hn, Nat.le_refl _, hm, (fun h => by cases h), fun _ => ⟨w.heap.size, 0, rfl, by omega, fun j v hv => by
    have e : (w.alloc (.cells cs e)).heap[w.heap.size]? = some (.cells cs e) := heap_alloc_new w _
    rw [Nat.zero_add, cell_of_row _ _ _ _ _ _ e]
    subst hx
    simpa using hv⟩⟩
theorem row_lit2 (w : World) (C : Obj) (cs : Array Value) (e : TypeId) (n : Nat) (hn : cs.size = n) (hm : n ≤ maxLen) (xs : List Value) (hx : cs.toList = xs) :
    Row ((w.alloc C).alloc (.cells cs e)) (w.heap.size + 2) (some ⟨w.heap.size + 1, 0, none⟩) n n xs := by
  have := irow_lit (w.alloc C) cs e n hn hm xs hx
  simpa using this
end Go.Proofs.YtdikiabjkmigdaaGreatDoor
