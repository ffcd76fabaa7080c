/-
  Contracts of midstreamref11: number, run, laid, Encode.
-/
import Derived.Test.YtdikiabjkmigdaaYPkg5
import Derived.Test.YtdikiabjkmigdaaYRef2
namespace Go.Proofs.Ytdikiabjkmigdaa
open Go.RowKit
set_option maxRecDepth 20000
set_option maxHeartbeats 4000000

theorem rNumber_any (B k v : Nat) (ki vi : Int) (A : Option Addr) (n c : Nat) (l : List UInt8) (w : World) (hr : Row w B A n c (cs8 l)) (hB : B ≤ w.heap.size) (hl : n ≤ 1099511627776) (hki : ki = (k : Int)) (hvi : vi = (v : Int)) (hk : 1 ≤ k ∧ k ≤ 8) (hv : v < 256 ^ k) (hv2 : v ≤ 4294967295) :
    Calls Try.prog 35 #[.slice A n c, .int .i64 ki, .int .i64 vi] w (LayPost w.heap.size w (l ++ leB k v)) := by
  subst hki
  subst hvi
  have HK := hide (And.intro hk hv)
  clear hk hv
  go_enter Try.func35, Try.ntmps35
  go_wp2_with fail
  refine (rPut_ok B A n c l k v _ w rfl hr hB hl HK.out.1 HK.out.2 hv2).mono ?_
  rintro e w2 ⟨A2, n2, c2, rfl, o2, hb2⟩
  go_wp2
  go_ret
  exact ⟨A2, n2, c2, rfl, o2, hb2⟩
theorem rRun_any (B : Nat) (A : Option Addr) (n c : Nat) (l : List UInt8) (A' : Option Addr) (n' c' : Nat) (x : List UInt8) (w : World) (hr : Row w B A n c (cs8 l)) (hx : Row w B A' n' c' (cs8 x)) (hB : B ≤ w.heap.size) (hl : n ≤ 549755813888) (hf : x.length ≤ 65535) :
    Calls Try.prog 38 #[.slice A n c, .slice A' n' c'] w (LayPost w.heap.size w (addR l x)) := by
  go_enter Try.func38, Try.ntmps38
  go_wp2_with fail
  refine (rPutRun_any B A n c l A' n' c' x w hr hx hB hl).mono ?_
  rw [prL_ok hf, prE_ok hf]
  rintro e w2 ⟨A2, n2, c2, rfl, o2, hb2⟩
  go_wp2
  go_ret
  exact ⟨A2, n2, c2, rfl, o2, hb2⟩

end Go.Proofs.Ytdikiabjkmigdaa
