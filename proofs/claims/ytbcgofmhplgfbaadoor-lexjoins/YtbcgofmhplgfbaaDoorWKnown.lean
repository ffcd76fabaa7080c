/-
  Contracts of package wrap's Digits and of the statements' own helper known. Digits asks that the library's table of powers of ten lies as its text lays it.
-/
import Derived.Test.YtbcgofmhplgfbaaDoorWBin
import Derived.Test.YtbcgofmhplgfbaaDoorShelf
import Derived.Lib.LaidTab
import Derived.Below
namespace Go.Proofs.YtbcgofmhplgfbaaDoor
open Go.RowKit
set_option maxHeartbeats 400000

theorem below_grow (w : World) (k : Nat) (os : Array Obj) : Below w.heap.size w (Sort.grow (w.drewN k) os) :=
  ⟨rfl, rfl, rfl, by simp, fun i hi => by rw [Sort.heap_grow_old _ _ (by simpa using hi)]; rfl⟩

/-- The library's table of powers of ten holds its numbers. -/
def Tab (w : World) : Prop := Lib.TabIs Tryd.prog w "internal/strconv.uint64pow10" .u64 Lib.pow10Tab

theorem digits_any (a : Int) (h0 : -2147483648 ≤ a) (h1 : a ≤ 2147483647) (w : World) (ht : Tab w) :
    Calls Tryd.prog 45 #[.int .i32 a] w fun e w' => e = .returned (.string ⟨(Lib.itoa a).toArray⟩) ∧ Below w.heap.size w w' := by
  go_enter Tryd.func45, Tryd.ntmps45
  go_wp2_with (go_at_call 48; refine (Tryd.strconv_FormatInt_10 a (by omega) (by omega) _ ht).mono ?_; rintro e w' ⟨rfl, k, os, rfl⟩)
  go_ret
  exact ⟨rfl, below_grow _ _ _⟩

theorem itoa30 : (⟨(Lib.itoa (-30)).toArray⟩ : ByteArray) = ⟨#[45, 51, 48]⟩ := by kernel_rfl
end Go.Proofs.YtbcgofmhplgfbaaDoor
