/-
  Contracts of package journal: stored, valid.
-/
import Derived.Test.YtahnfkoakaimhaaJPkg
namespace Go.Proofs.Ytahnfkoakaimhaa
open Go.RowKit
set_option maxHeartbeats 1000000

theorem Row.two (w : World) (u v : Value) (e : TypeId) : Row (w.alloc (.cells #[u, v] e)) (w.heap.size + 1) (some ⟨w.heap.size, 0, none⟩) 2 2 [u, v] :=
  ⟨rfl, Nat.le_refl _, by simp [maxLen], (fun h => by cases h), fun _ => ⟨w.heap.size, 0, rfl, by omega, fun j x hx => by
    match j, hx with
    | 0, hx => simp at hx; subst hx; simp
    | 1, hx => simp at hx; subst hx; simp⟩⟩
theorem two_u32 (n m : Int) : ∀ u ∈ [Value.int .u32 n, .int .u32 m], u.oneCell' = true := by
  intro u hu; simp at hu; rcases hu with rfl | rfl <;> rfl
theorem cs32_head {N : Nat} {r : List UInt32} (hN : N < 4294967296) (hr : r.length < 4294967296) : cs32 (headW N r) = [.int .u32 (N : Int), .int .u32 (r.length : Int)] ++ cs32 r := by
  have e1 : (word N).toNat = N := by rw [word_toNat]; omega
  have e2 : (word r.length).toNat = r.length := by rw [word_toNat]; omega
  unfold headW cs32
  simp [e1, e2]
theorem cs32_laid (N : Nat) (r : List UInt32) : cs32 (laidW N r) = cs32 (headW N r) ++ [.int .u32 (crcOn 0 (bytesL (headW N r)) : Int), .int .u32 0] := by
  unfold laidW
  rw [cs32_app]
  congr 1
  unfold cs32
  simp [sumW_toNat]
theorem stored_any (B : Nat) (A : Option Addr) (n c N : Nat) (r : List UInt32) (w : World) (hr : Row w B A n c (cs32 r)) (hB : B ≤ w.heap.size) (hn : n ≤ 300) (hN : N ≤ 2147483648) :
    Calls Try.prog 39 #[.int .u32 (N : Int), .slice A n c] w (Gives32 w (laidW N r)) := by
  obtain ⟨i0, hi, hz0, hz1, hz2⟩ := info_parts info32
  have hln := hr.len
  rw [cs32_len] at hln
  have HH := hide (show cs32 (headW N r) = [.int .u32 (N : Int), .int .u32 (n : Int)] ++ cs32 r by rw [← hln]; exact cs32_head (by omega) (by omega))
  have HL := hide (cs32_laid N r)
  have HN := hide hln
  clear hln
  have HNN := hide hN
  clear hN
  go_enter Try.func39, Try.ntmps39
  go_wp2_with (first
    | (at_make; refine wpList_make_own _ rfl _ _ 36 rfl w.heap.size 37 i0 (.int .u32 0) 1 Try.underlying36 hi hz0 hz1 _ _ _ (n + 4) rfl rfl (by omega) (by rw [hz2]; omega) (by unfold maxLen; omega) (Nat.le_refl _) ?_; intro w1 ho1 hg1; have hb1 : Below w.heap.size w w1 := (Below.refl _ _).grown hg1 (Nat.le_refl _) (by simp); have hs1 := hb1.size)
    | (at_builtin; refine wpList_append_row rfl (.tmp 11) (.tmp 16) 36 rfl w.heap.size 37 i0 _ 4 Try.underlying36 hi hz0 hz1 hz2 rfl _ _ _ rfl (ho1.alloc _) _ _ _ _ _ rfl (Row.two _ _ _ _) (two_u32 _ _) (by unfold maxLen; omega) (by omega) w (hb1.alloc hs1 _) (Nat.le_refl _) ?_; intro A2 c2 w2 ho2 hb2 hg2; have hs2 := hb2.size; simp only [Nat.zero_add, List.nil_append] at ho2)
    | (at_builtin; refine wpList_append_row rfl (.tmp 18) (.tmp 19) 36 rfl w.heap.size 37 i0 _ 4 Try.underlying36 hi hz0 hz1 hz2 rfl _ _ _ rfl ho2 _ _ _ _ _ rfl (hr.keep hb2 hB) (cs32_one _) (by unfold maxLen; omega) (by omega) w hb2 (Nat.le_refl _) ?_; intro A3 c3 w3 ho3 hb3 hg3; have hs3 := hb3.size))
  rw [← HH.out] at ho3
  have hl3 : (headW N r).length = 2 + n := own32_len ho3
  clear hg1 hg2 hg3 ho1 ho2
  refine (Bytes_any w3.heap.size _ _ _ (headW N r) _ (Row.of_own ho3) (Nat.le_refl _) (by omega)).mono ?_
  rintro e w4 ⟨A4, n4, c4, rfl, ho4, hb4⟩
  have hs4 := hb4.size
  have ho34 := own_keep ho3 hb4
  have hb04 : Below w.heap.size w w4 := hb3.trans (hb4.mono hs3)
  go_wp2_with fail
  refine (Sum_any w4.heap.size _ _ _ (bytesL (headW N r)) _ (Row.of_own ho4) (Nat.le_refl _)).mono ?_
  rintro e w5 ⟨rfl, hb5⟩
  have hs5 := hb5.size
  have ho35 := own_keep ho34 hb5
  have hb05 : Below w.heap.size w w5 := hb04.trans (hb5.mono (by omega))
  clear ho3 ho4 ho34 hb4 hb5 hb3 hb04
  go_wp2_with (at_builtin; refine wpList_append_row rfl (.tmp 21) (.tmp 25) 36 rfl w.heap.size 37 i0 _ 4 Try.underlying36 hi hz0 hz1 hz2 rfl _ _ _ rfl (ho35.alloc _) _ _ _ _ _ rfl (Row.two _ _ _ _) (two_u32 _ _) (by unfold maxLen; omega) (by omega) w (hb05.alloc (by omega) _) (Nat.le_refl _) ?_; intro A6 c6 w6 ho6 hb6 hg6)
  go_ret
  exact ⟨A6, _, c6, rfl, by rw [HL.out]; exact ho6, hb6⟩
end Go.Proofs.Ytahnfkoakaimhaa
