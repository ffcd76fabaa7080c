/-
  Contracts of package wrap's Digits and of the statements' own helper known. Digits asks that the library's table of powers of ten lies as its text lays it.
-/
import Derived.Test.YtpbjlnlkegefjaaDoorWBin
import Derived.Test.YtpbjlnlkegefjaaDoorShelf
import Derived.Lib.LaidTab
import Derived.Below
namespace Go.Proofs.YtpbjlnlkegefjaaDoor
open Go.RowKit
set_option maxHeartbeats 400000

theorem below_grow (w : World) (k : Nat) (os : Array Obj) : Below w.heap.size w (Sort.grow (w.drewN k) os) :=
  ⟨rfl, rfl, rfl, by simp, fun i hi => by rw [Sort.heap_grow_old _ _ (by simpa using hi)]; rfl⟩

/-- The library's table of powers of ten holds its numbers. -/
def Tab (w : World) : Prop := Lib.TabIs Tryd.prog w "internal/strconv.uint64pow10" .u64 Lib.pow10Tab

theorem digits_any (a : Int) (h0 : -2147483648 ≤ a) (h1 : a ≤ 2147483647) (w : World) (ht : Tab w) :
    Calls Tryd.prog 22 #[.int .i32 a] w fun e w' => e = .returned (.string ⟨(Lib.itoa a).toArray⟩) ∧ Below w.heap.size w w' := by
  go_enter Tryd.func22, Tryd.ntmps22
  go_wp2_with (go_at_call 34; refine (Tryd.strconv_FormatInt_10 a (by omega) (by omega) _ ht).mono ?_; rintro e w' ⟨rfl, k, os, rfl⟩)
  go_ret
  exact ⟨rfl, below_grow _ _ _⟩

theorem itoa30 : (⟨(Lib.itoa (-30)).toArray⟩ : ByteArray) = ⟨#[45, 51, 48]⟩ := by kernel_rfl
theorem known_any (w : World) (ht : Tab w) :
    Calls Tryd.prog 13 #[] w fun e w' => e = .returned (.bool true) ∧ Below w.heap.size w w' := by
  have e1 : binV 4 (-7) 2 = -3 := by kernel_rfl
  have e2 : binB 4 = true := by decide
  have e3 : unV 2 5 = 0 := by decide
  have e4 : unB 2 = true := by decide
  have e5 : binV 99 1 1 = 0 := by decide
  have e6 : binB 99 = false := by decide
  have e7 := itoa30
  go_enter Tryd.func13, Tryd.ntmps13
  go_wp2_with (first
    | (go_at_call 11; refine (Bin_any _ _ _ _).mono ?_; rintro e w' ⟨rfl, rfl⟩)
    | (go_at_call 14; refine (Un_any _ _ _).mono ?_; rintro e w' ⟨rfl, rfl⟩)
    | (go_at_call 22; refine (digits_any _ (by decide) (by decide) _ ht).mono ?_; rintro e w' ⟨rfl, hb⟩))
  go_ret
  exact ⟨rfl, hb⟩
end Go.Proofs.YtpbjlnlkegefjaaDoor
