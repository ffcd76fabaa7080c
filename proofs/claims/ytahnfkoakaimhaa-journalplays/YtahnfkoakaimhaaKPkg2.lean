/-
  Contracts of package crc: Seal, Open; and bytes.Clone.
-/
import Derived.Test.YtahnfkoakaimhaaKPkg
namespace Go.Proofs.Ytahnfkoakaimhaa
open Go.RowKit
set_option maxHeartbeats 400000

theorem oeq_nil_in {P : Program} (d : Nat) (t e : TypeId) (h : P.underlying t = some (.slice e)) (A : Option Addr) (n c : Nat) (w : World) : (Op.equalIn (d + 1) t (.slice A n c) (.slice none 0 0)).run P w = .ok A.isNone w := by
  cases A <;> simp [Op.equalIn, run_underlying h]
theorem oeq_nil (A : Option Addr) (n c : Nat) (w : World) : (binOp .eql 84 (.slice A n c) (.slice none 0 0)).run Try.prog w = .ok (.bool A.isNone) w := by
  have h : (Op.equal 84 (.slice A n c) (.slice none 0 0)).run Try.prog w = .ok A.isNone w := oeq_nil_in 9999 84 5 Try.underlying84 A n c w
  simp only [binOp]
  simp [h]
end Go.Proofs.Ytahnfkoakaimhaa
