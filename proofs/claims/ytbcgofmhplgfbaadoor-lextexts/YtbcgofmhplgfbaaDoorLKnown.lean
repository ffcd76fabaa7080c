/-
  Contract of the statements' own helper known.
-/
import Derived.Test.YtbcgofmhplgfbaaDoorLRef2
namespace Go.Proofs.YtbcgofmhplgfbaaDoor
open Go.RowKit
set_option maxHeartbeats 1000000

def txtA : List UInt8 := [120, 60, 61, 49, 48, 32, 45, 45, 32, 121]
def txtB : List UInt8 := [108, 101, 116, 95, 32, 48, 55]
theorem scanA : scanL txtA = ([⟨1, [120], 0, 0⟩, ⟨4, [60, 61], 0, 1⟩, ⟨2, [49, 48], 10, 3⟩], 0, 0) := by kernel_rfl
theorem scanB : scanL txtB = ([], 16, 5) := by kernel_rfl
theorem wordN : isWord [110, 111, 100, 101] = true := by decide
theorem nameN : isName [110, 111, 100, 101] = false := by decide
theorem markN : isMark [45, 62] = true := by decide
theorem Word_n (w : World) : Calls Tryd.prog 9 #[.string ⟨#[110, 111, 100, 101]⟩] w fun e w' => e = .returned (.bool true) ∧ w = w' :=
  (Word_any ⟨#[110, 111, 100, 101]⟩ w).mono fun _ _ ⟨h, hw⟩ => ⟨h.trans (ret_b wordN), hw⟩
theorem Name_n (w : World) : Calls Tryd.prog 10 #[.string ⟨#[110, 111, 100, 101]⟩] w fun e w' => e = .returned (.bool false) ∧ Below w.heap.size w w' :=
  (Name_any ⟨#[110, 111, 100, 101]⟩ (by decide) w).mono fun _ _ ⟨h, hw⟩ => ⟨h.trans (ret_b nameN), hw⟩
theorem Mark_n (w : World) : Calls Tryd.prog 11 #[.string ⟨#[45, 62]⟩] w fun e w' => e = .returned (.bool true) ∧ w = w' :=
  (Mark_any ⟨#[45, 62]⟩ w).mono fun _ _ ⟨h, hw⟩ => ⟨h.trans (ret_b markN), hw⟩
theorem lknown_any (w : World) (he : Env w) : Calls Tryd.prog 8 #[] w fun e w' => e = .returned (.bool true) ∧ Below w.heap.size w w' := by
  go_enter Tryd.func8, Tryd.ntmps8
  go_wp2_with fail
  refine (Scan_any (str txtA) (by decide) w he).mono ?_
  rw [str_list, scanA]
  rintro e w1 ⟨A, n, c, rfl, ho, b1⟩
  have hn : n = 3 := (ownT_len ho).symm
  have hr := RowT.of_own ho
  have he1 := he.keep b1
  subst hn
  clear ho he
  go_wp2_with fail
  refine (Scan_any (str txtB) (by decide) w1 he1).mono ?_
  rw [str_list, scanB]
  rintro e w2 ⟨A', n', c', rfl, ho, b2⟩
  have hr2 := hr.keep b2 (Nat.le_refl _)
  have hb2 := b1.trans (b2.mono b1.size)
  obtain ⟨b, o, t, rfl, _, hu, c0, c1, c2, c3⟩ := hr2.get (j := 1) (by omega)
  obtain ⟨b', o', t', hA, _, hu', d0, d1, d2, d3⟩ := hr2.get (j := 2) (by omega)
  obtain ⟨rfl, rfl⟩ : b' = b ∧ o' = o := by simpa using hA.symm
  obtain rfl : t = ⟨4, [60, 61], 0, 1⟩ := by simpa using hu.symm
  obtain rfl : t' = ⟨2, [49, 48], 10, 3⟩ := by simpa using hu'.symm
  clear hu hu' hA b1 b2 ho hr hr2 he1
  have hstr : ((str [60, 61]).toList == [60, 61]) = true := by rw [list_eq, str_list]; decide
  go_wp2_with (first
    | (go_at_call 9; refine (Word_n _).mono ?_; rintro e w' ⟨rfl, rfl⟩)
    | (go_at_call 10; refine (Name_n _).mono ?_; rintro e w3 ⟨rfl, b3⟩)
    | (go_at_call 11; refine (Mark_n _).mono ?_; rintro e w' ⟨rfl, rfl⟩))
  go_ret
  exact ⟨rfl, hb2.trans (b3.mono hb2.size)⟩
end Go.Proofs.YtbcgofmhplgfbaaDoor
