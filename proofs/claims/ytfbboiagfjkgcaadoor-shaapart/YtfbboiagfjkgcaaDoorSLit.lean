/-
  A digest's 32 bytes, one by one: for loads of a whole array where the order is drawn.
-/
import Derived.Test.YtfbboiagfjkgcaaDoorSKnown
namespace Go.Proofs.YtfbboiagfjkgcaaDoor
open Go.RowKit

theorem chr_lit (d : List UInt8) (hd : d.length = 32) : (#[.int .u8 ((chr d 0).toNat : Int), .int .u8 ((chr d 1).toNat : Int), .int .u8 ((chr d 2).toNat : Int), .int .u8 ((chr d 3).toNat : Int), .int .u8 ((chr d 4).toNat : Int), .int .u8 ((chr d 5).toNat : Int), .int .u8 ((chr d 6).toNat : Int), .int .u8 ((chr d 7).toNat : Int), .int .u8 ((chr d 8).toNat : Int), .int .u8 ((chr d 9).toNat : Int), .int .u8 ((chr d 10).toNat : Int), .int .u8 ((chr d 11).toNat : Int), .int .u8 ((chr d 12).toNat : Int), .int .u8 ((chr d 13).toNat : Int), .int .u8 ((chr d 14).toNat : Int), .int .u8 ((chr d 15).toNat : Int), .int .u8 ((chr d 16).toNat : Int), .int .u8 ((chr d 17).toNat : Int), .int .u8 ((chr d 18).toNat : Int), .int .u8 ((chr d 19).toNat : Int), .int .u8 ((chr d 20).toNat : Int), .int .u8 ((chr d 21).toNat : Int), .int .u8 ((chr d 22).toNat : Int), .int .u8 ((chr d 23).toNat : Int), .int .u8 ((chr d 24).toNat : Int), .int .u8 ((chr d 25).toNat : Int), .int .u8 ((chr d 26).toNat : Int), .int .u8 ((chr d 27).toNat : Int), .int .u8 ((chr d 28).toNat : Int), .int .u8 ((chr d 29).toNat : Int), .int .u8 ((chr d 30).toNat : Int), .int .u8 ((chr d 31).toNat : Int)] : Array Value) = (cs8 d).toArray := by
  have e : cs8 d = (List.range 32).map fun j => .int .u8 ((chr d j).toNat : Int) := by
    apply List.ext_getElem?
    intro j
    by_cases hj : j < 32
    · rw [cs8_at (show j < d.length by omega), chr_at]; simp [hj]
    · rw [List.getElem?_eq_none (by rw [cs8_len]; omega), List.getElem?_eq_none (by simp; omega)]
  rw [e]
  rfl
theorem Blk.chr {w : World} {g : Nat} {t : TypeId} {d : List UInt8} (h : Blk w g t (cs8 d)) (hd : d.length = 32) : ∀ j, j < 32 → w.cell? ⟨g, j, none⟩ = some (.int .u8 ((chr d j).toNat : Int)) := fun j hj => by
  rw [← chr_at (show j < d.length by omega)]; exact h.cell (cs8_at _)
end Go.Proofs.YtfbboiagfjkgcaaDoor
