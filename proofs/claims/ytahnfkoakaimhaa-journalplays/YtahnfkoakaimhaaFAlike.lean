/-
  Contracts of the laws' helpers: Same, Count (layer 2's reference), alike.
-/
import Derived.Test.YtahnfkoakaimhaaFRef3
namespace Go.Proofs.Ytahnfkoakaimhaa
open Go.RowKit
set_option maxHeartbeats 400000

def Drew (b : Bool) (w : World) (e : Ending) (w' : World) : Prop := ∃ k, e = .returned (.bool b) ∧ w' = w.drewN k
theorem Same_any (B B' : Nat) (A A' : Option Addr) (n n' c c' : Nat) (ws : List UInt32) (w : World) (hr : Row w B A n c (cs32 ws)) (hr' : Row w B' A' n' c' (cs32 ws)) :
    Calls Try.prog 12 #[.slice A n c, .slice A' n' c'] w (Drew true w) := by
  obtain rfl : n' = n := by have h1 := hr.len; have h2 := hr'.len; omega
  have hn := hr.len
  rw [cs32_len] at hn
  subst hn
  have hm := hr.max
  have hcap := hr.cap
  unfold maxLen at hm
  go_enter Try.func12, Try.ntmps12
  go_wp2
  go_loopw [5] (fun i wr => ∃ j k : Nat, j ≤ ws.length ∧ i = .int .i64 (j : Int) ∧ wr = w.drewN k) (fun i _ => ws.length - (intOf i).toNat)
  case atStart => exact ⟨0, 0, Nat.zero_le _, rfl, rfl⟩
  case round =>
    obtain ⟨j, k, hj, rfl, rfl⟩ := hrel
    by_cases hlt : j < ws.length
    · obtain ⟨b, o, u, rfl, _, hu, hc⟩ := hr.get hlt
      obtain ⟨b', o', u', rfl, _, hu', hc'⟩ := hr'.get hlt
      rw [cs32_at hlt] at hu hu'
      obtain rfl := Option.some.inj hu
      obtain rfl := Option.some.inj hu'
      have hw := ws[j].toNat_lt
      have hi1 : (j : Int) < (ws.length : Int) := by omega
      clear hu hu' hr hr'
      go_wp2
      go_quiet (fail)
      go_wp2
      go_roundw
      case rel => exact ⟨j + 1, k + nq, by omega, by go_num, by first | rfl | exact World.drewN_drewN⟩
      case measure => simp [intOf]; omega
    · obtain rfl : j = ws.length := by omega
      go_wp2
      go_ret
      exact ⟨k, rfl, rfl⟩
theorem Row.of_drewN {w : World} {B n c : Nat} {A : Option Addr} {xs : List Value} (h : Row w B A n c xs) (k : Nat) : Row (w.drewN k) B A n c xs := ⟨h.len, h.cap, h.max, h.nil, h.cells⟩
theorem Fl.drewN {w : World} {g h : Nat} {s : FS} (f : Fl w g h s) (k : Nat) : Fl (w.drewN k) g h s := ((Keeps.refl [] w).drewN k).fl f (by simp) (by simp)
theorem Rf.drewN {w : World} {g h : Nat} {s : FS} (f : Rf w g h s) (k : Nat) : Rf (w.drewN k) g h s := ((Keeps.refl [] w).drewN k).rf f (by simp) (by simp)
theorem calm {P : Program} {f : FuncId} {args : Array Value} {w : World} {n : Nat} {v : Value} (h : Calls P f args (w.drewN n) fun e w' => e = .returned v ∧ w.drewN n = w') : Calls P f args (w.drewN n) fun e w'' => e = .returned v ∧ ∃ m, w'' = w.drewN m :=
  h.mono fun _ _ ⟨he, hm⟩ => ⟨he, n, hm.symm⟩
theorem calm_same {B B' : Nat} {A A' : Option Addr} {n n' c c' : Nat} {ws : List UInt32} {w : World} {i : Nat} (hr : Row w B A n c (cs32 ws)) (hr' : Row w B' A' n' c' (cs32 ws)) :
    Calls Try.prog 12 #[.slice A n c, .slice A' n' c'] (w.drewN i) fun e w'' => e = .returned (.bool true) ∧ ∃ m, w'' = w.drewN m :=
  (Same_any B B' A A' n n' c c' ws _ (hr.of_drewN i) (hr'.of_drewN i)).mono fun _ _ ⟨k, he, hm⟩ => ⟨he, i + k, by rw [hm, World.drewN_drewN]⟩
end Go.Proofs.Ytahnfkoakaimhaa
