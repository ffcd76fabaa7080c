/-
  Contract of the statements' own helper known of layer 2.
-/
import Derived.Test.YtmajnkdfchjcbaaOLent
import Derived.Lib.SlBytesConst
namespace Go.Proofs.Ytmajnkdfchjcbaa
open Go.RowKit
set_option maxHeartbeats 400000

theorem Put_lit (width : Int) (v : Nat) (vi : Int) (r : List UInt8) (er : Int) (w : World) (hv : vi = (v : Int)) (hr : putL [] width v = r) (he : putE width v = er) :
    Calls Try.prog 12 #[.slice none 0 0, .int .i64 width, .int .u64 vi] w (Gives w r er) := by
  subst hv; subst hr; subst he
  exact Put_any 0 none 0 0 [] width v w Row.none_ (Nat.zero_le _) (by omega)
theorem put_258 : putL [] 2 258 = [2, 1] := by kernel_rfl
theorem put_258e : putE 2 258 = 0 := by kernel_rfl
theorem put_256 : putL [] 1 256 = [] := by kernel_rfl
theorem put_256e : putE 1 256 = 3 := by kernel_rfl
theorem run_ab : prL [] [97, 98] = [2, 0, 97, 98] := by kernel_rfl
theorem run_abe : prE [97, 98] = 0 := by kernel_rfl
theorem Signed_lit (w : World) : Calls Try.prog 29 #[.int .u32 4294967295] w fun e w' => e = .returned (.int .i32 (-1)) ∧ w = w' := by
  refine (Signed_any (word 4294967295) w).mono ?_
  rintro e w' ⟨rfl, rfl⟩
  exact ⟨ret_int (by rw [word_toNat]; unfold wrap32; omega), rfl⟩
theorem row_ab (w : World) : Row (w.alloc (.cells #[.int .u8 97, .int .u8 98] 5 (2, 3))) (w.heap.size + 1) (some ⟨w.heap.size, 0, none⟩) 2 2 (cs8 [97, 98]) :=
  ⟨rfl, Nat.le_refl _, by simp [maxLen], (fun h => by cases h), fun _ => ⟨w.heap.size, 0, rfl, by omega, fun j v hv => by
    have e : (w.alloc (.cells #[.int .u8 97, .int .u8 98] 5 (2, 3))).heap[w.heap.size]? = some (.cells #[.int .u8 97, .int .u8 98] 5 (2, 3)) := heap_alloc_new w _
    rw [cell_of_row _ _ _ _ _ _ e]
    match j, hv with
    | 0, hv => simpa [cs8] using hv
    | 1, hv => simpa [cs8] using hv⟩⟩
theorem known_any (w : World) : Calls Try.prog 10 #[] w fun e w' => e = .returned (.bool true) ∧ Below w.heap.size w w' := by
  have kc := fun (w : World) (C : Array Value) (n c : Nat) => Lib.run_convert_bytes_const (P := Try.prog) w 22 5 C n c Try.underlying22 Try.underlying5
  go_enter Try.func10, Try.ntmps10
  go_wp2_with fail
  refine (Put_lit 2 258 _ _ _ _ rfl put_258 put_258e).mono ?_
  rintro e w1 ⟨A1, n1, c1, rfl, ho1, hb1⟩
  have hs1 := hb1.size
  go_wp2_with fail
  refine (PutRun_any (w1.heap.size + 1) none 0 0 [] _ _ _ [97, 98] _ Row.none_ (row_ab w1) (by simp) (by omega)).mono ?_
  rw [run_ab, run_abe]
  rintro e w2 ⟨A2, n2, c2, rfl, ho2, hb2⟩
  have hb2 : Below w1.heap.size w1 w2 := ((Below.refl _ _).alloc (Nat.le_refl _) _).trans (hb2.mono (by simp))
  have hs2 := hb2.size
  go_wp2_with fail
  refine (Put_lit 1 256 _ _ _ _ rfl put_256 put_256e).mono ?_
  rintro e w3 ⟨A3, n3, c3, rfl, ho3, hb3⟩
  have hs3 := hb3.size
  have k1 := ((Row.of_own ho1).keep hb2 (Nat.le_refl _)).keep hb3 hs2 |>.str (P := Try.prog) (dst := 9) Try.underlying22 Try.underlying5 Try.underlying9
  have k2 := ((Row.of_own ho2).keep hb3 (Nat.le_refl _)) |>.str (P := Try.prog) (dst := 9) Try.underlying22 Try.underlying5 Try.underlying9
  go_wp2_with (go_at_call 29; refine (Signed_lit _).mono ?_; rintro e w' ⟨rfl, rfl⟩)
  go_ret
  exact ⟨rfl, (hb1.trans (hb2.mono hs1)).trans (hb3.mono (by omega))⟩
end Go.Proofs.Ytmajnkdfchjcbaa
