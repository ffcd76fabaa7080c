/-
  Contracts of package octet: Words, Bytes, Signed, Plain.
-/
import Derived.Test.YtdikiabjkmigdaaGreatDoorOPkg2
namespace Go.Proofs.YtdikiabjkmigdaaGreatDoor
set_option maxRecDepth 20000
open Go.RowKit
set_option maxHeartbeats 400000
theorem info32 : (Tryz.prog.info? 22).map (fun i => (i.zero, i.size, i.bytes)) = some (some (.int .u32 0), 1, 4) := by kernel_rfl
theorem size32 : (Tryz.prog.info? 22).map (·.size) = some 1 := by kernel_rfl
theorem one_u32 (n : Int) : ∀ u ∈ [Value.int .u32 n], u.oneCell' = true := by
  intro u hu; simp at hu; subst hu; rfl
theorem own32_len {w : World} {base : Nat} {e : TypeId} {v : Value} {n : Nat} {l : List UInt32} (h : w.ownsRow base e 1 v n (cs32 l)) : l.length = n := by
  have := h.1; rwa [cs32_len, Nat.mul_one] at this
/-- New words. -/
def Gives32 (w : World) (r : List UInt32) (e : Ending) (w' : World) : Prop :=
  ∃ A n c, e = .returned (.slice A n c) ∧ w'.ownsRow w.heap.size 22 1 (.slice A n c) n (cs32 r) ∧ Below w.heap.size w w'
theorem number_int (B : Nat) (A : Option Addr) (n c : Nat) (l : List UInt8) (ai ki : Int) (a k : Nat) (w : World) (hr : Row w B A n c (cs8 l)) (ha : ai = a) (hki : ki = k) (hk : k ≤ 8) (h : a + k ≤ n) :
    Calls Tryz.prog 74 #[.slice A n c, .int .i64 ai, .int .i64 ki] w fun e w' => e = .returned (.int .u64 (leN ((l.drop a).take k) : Int)) ∧ w = w' := by
  subst ha; subst hki; exact number_any B A n c l a k w hr hk h
theorem grp_full (l : List UInt8) (j : Nat) (h : 4 * j + 4 ≤ l.length) : pad4 (grp l j) = (l.drop (4 * j)).take 4 := by
  unfold pad4 grp
  rw [show 4 - ((l.drop (4 * j)).take 4).length = 0 by simp; omega, List.replicate_zero, List.append_nil]
theorem word_cell (n : Nat) : (n : Int) % 4294967296 = ((word n).toNat : Int) := by rw [word_toNat]; omega
theorem cs32_snoc (l : List UInt32) (c : UInt32) : cs32 (l ++ [c]) = cs32 l ++ [.int .u32 (c.toNat : Int)] := by simp [cs32]
theorem words_full (l : List UInt8) (j : Nat) (h : 4 * j + 4 ≤ l.length) : cs32 (wordsK l (j + 1)) = cs32 (wordsK l j) ++ [.int .u32 ((leN ((l.drop (4 * j)).take 4) : Int) % 4294967296)] := by
  rw [wordsK_succ, cs32_snoc, grp_full l j h, word_cell]
theorem or_ones (r : Nat) (x y : Nat) (hx : x % 2 ^ (8 * r) = 0) (hx2 : x < 4294967296) (hy : y < 2 ^ (8 * r)) (hy2 : y < 4294967296) : bits .or .u32 (x : Int) (y : Int) = ((x + y : Nat) : Int) := by
  rw [u32_or_nat x y hx2 hy2, nat_join (8 * r) x y hx hy]
theorem words_last (l : List UInt8) (j r : Nat) (hl : l.length = 4 * j + r) (h1 : ¬ r = 0) (h2 : r < 4) :
    cs32 (wordsL l) = cs32 (wordsK l j) ++ [.int .u32 (bits .or .u32 (IntKind.u32.wrap (4294967295 * 2 ^ (8 * r))) ((leN ((l.drop (4 * j)).take r) : Int) % 4294967296))] := by
  have hk : (l.length + 3) / 4 = j + 1 := by omega
  have hg : grp l j = (l.drop (4 * j)).take r := by
    unfold grp
    rw [List.take_of_length_le (by simp; omega), List.take_of_length_le (by simp; omega)]
  have hgl : ((l.drop (4 * j)).take r).length = r := by simp; omega
  unfold wordsL
  rw [hk, wordsK_succ, cs32_snoc, hg]
  have hlt := leN_lt ((l.drop (4 * j)).take r)
  unfold pad4
  rw [leN_app]
  rw [hgl] at hlt ⊢
  generalize leN ((l.drop (4 * j)).take r) = g at hlt ⊢
  have e : (g : Int) % 4294967296 = ((g % 4294967296 : Nat) : Int) := by omega
  rw [word_toNat, e]
  congr 3
  rcases (show r = 1 ∨ r = 2 ∨ r = 3 by omega) with rfl | rfl | rfl
  · rw [show IntKind.u32.wrap (4294967295 * 2 ^ (8 * 1)) = ((4294967040 : Nat) : Int) from rfl, or_ones 1 _ _ rfl (by omega) (by omega) (by omega), show leN (List.replicate (4 - 1) 255) = 16777215 from rfl]
    omega
  · rw [show IntKind.u32.wrap (4294967295 * 2 ^ (8 * 2)) = ((4294901760 : Nat) : Int) from rfl, or_ones 2 _ _ rfl (by omega) (by omega) (by omega), show leN (List.replicate (4 - 2) 255) = 65535 from rfl]
    omega
  · rw [show IntKind.u32.wrap (4294967295 * 2 ^ (8 * 3)) = ((4278190080 : Nat) : Int) from rfl, or_ones 3 _ _ rfl (by omega) (by omega) (by omega), show leN (List.replicate (4 - 3) 255) = 255 from rfl]
    omega
theorem words_none (l : List UInt8) (j : Nat) (hl : l.length = 4 * j) : wordsL l = wordsK l j := by
  unfold wordsL; rw [show (l.length + 3) / 4 = j by omega]
theorem Words_any (B : Nat) (A : Option Addr) (n c : Nat) (l : List UInt8) (w : World) (hr : Row w B A n c (cs8 l)) (hB : B ≤ w.heap.size) (hl : n ≤ 1099511627776) :
    Calls Tryz.prog 75 #[.slice A n c] w (Gives32 w (wordsL l)) := by
  obtain ⟨i0, hi, hz0, hz1, hz2⟩ := info_parts info32
  have hn := hr.len
  rw [cs8_len] at hn
  obtain ⟨q, r, rfl, hr4⟩ : ∃ q r, n = 4 * q + r ∧ r < 4 := ⟨n / 4, n % 4, by omega, by omega⟩
  have HN := hide hn
  clear hn
  have e1 : (4 * (q : Int) + (r : Int)) / 4 = q := by omega
  have e2 : 4 * (q : Int) + (r : Int) - (q : Int) * 4 = r := by omega
  go_enter Tryz.func75, Tryz.ntmps75
  go_wp2_with (at_make; refine wpList_make_own _ rfl _ _ 96 rfl w.heap.size 22 i0 (.int .u32 0) 1 Tryz.underlying96 hi hz0 hz1 _ _ _ (q + 1) rfl rfl (by omega) (by rw [hz2]; omega) (by unfold maxLen; omega) (Nat.le_refl _) ?_; intro w1 ho1 hg1)
  have hb1 : Below w.heap.size w w1 := (Below.refl _ _).grown hg1 (Nat.le_refl _) (by simp)
  clear hg1
  go_loopw [4, 16] (fun s i wr => ∃ (j : Nat) (A' : Option Addr) (c' : Nat), j ≤ q ∧ i = .int .i64 (j : Int) ∧ s = .slice A' j c' ∧ wr.ownsRow w.heap.size 22 1 (.slice A' j c') j (cs32 (wordsK l j)) ∧ Below w.heap.size w wr) (fun _ i _ => q - (intOf i).toNat)
  case atStart => exact ⟨0, _, _, Nat.zero_le _, rfl, rfl, ho1, hb1⟩
  case round =>
    clear ho1 hb1
    obtain ⟨j, A', c', hj, rfl, rfl, ho, hb⟩ := hrel
    have hbs := hb.size
    by_cases hlt : j < q
    · have HE := hide (words_full l j (by have := HN.out; omega))
      go_wp2_with (first
        | (go_at_call 74; refine (number_int B _ _ _ l _ _ (4 * j) 4 _ (hr.keep hb hB) (by omega) rfl (by omega) (by omega)).mono ?_; rintro e w' ⟨rfl, rfl⟩)
        | (at_builtin; refine wpList_append_row rfl (.tmp 19) (.tmp 25) 96 rfl w.heap.size 22 i0 _ 4 Tryz.underlying96 hi hz0 hz1 hz2 rfl _ _ _ rfl (ho.alloc _) _ _ _ _ _ rfl (Row.one _ _ _) (one_u32 _) (by unfold maxLen; omega) (by omega) w (hb.alloc (by omega) _) (Nat.le_refl _) ?_; intro A2 c2 w2 ho2 hb2 hg2))
      go_roundw
      case rel => exact ⟨j + 1, A2, c2, by omega, by go_num, rfl, by rw [HE.out]; exact ho2, hb2⟩
      case measure => simp [intOf]; omega
    · obtain rfl : j = q := by omega
      by_cases h0 : r = 0
      · subst h0
        go_wp2
        go_ret
        exact ⟨A', j, c', rfl, by rw [words_none l j (by have := HN.out; omega)]; exact ho, hb⟩
      · have HE := hide (words_last l j r HN.out h0 hr4)
        have hrp : 0 < r := by omega
        go_wp2_with (first
          | (go_at_call 74; refine (number_int B _ _ _ l _ _ (4 * j) r _ (hr.keep hb hB) (by omega) rfl (by omega) (by omega)).mono ?_; rintro e w' ⟨rfl, rfl⟩)
          | (at_builtin; refine wpList_append_row rfl (.tmp 39) (.tmp 47) 96 rfl w.heap.size 22 i0 _ 4 Tryz.underlying96 hi hz0 hz1 hz2 rfl _ _ _ rfl (ho.alloc _) _ _ _ _ _ rfl (Row.one _ _ _) (one_u32 _) (by unfold maxLen; omega) (by omega) w (hb.alloc (by omega) _) (Nat.le_refl _) ?_; intro A2 c2 w2 ho2 hb2 hg2))
        go_ret
        exact ⟨A2, _, c2, rfl, by rw [HE.out]; exact ho2, hb2⟩

theorem bytes_take (ws : List UInt32) (j : Nat) (h : j < ws.length) : bytesL (ws.take j) ++ leB 4 ws[j].toNat = bytesL (ws.take (j + 1)) := by
  rw [List.take_succ_eq_append_getElem h, bytesL_snoc]
theorem Bytes_any (B : Nat) (A : Option Addr) (n c : Nat) (ws : List UInt32) (w : World) (hr : Row w B A n c (cs32 ws)) (hB : B ≤ w.heap.size) (hl : n ≤ 137438953472) :
    Calls Tryz.prog 71 #[.slice A n c] w (LayPost w.heap.size w (bytesL ws)) := by
  obtain ⟨i0, hi, hz0, hz1, hz2⟩ := info_parts info8
  have hn := hr.len
  rw [cs32_len] at hn
  subst hn
  go_enter Tryz.func71, Tryz.ntmps71
  go_wp2_with (at_make; refine wpList_make_own _ rfl _ _ 29 rfl w.heap.size 5 i0 (.int .u8 0) 1 Tryz.underlying29 hi hz0 hz1 _ _ _ (ws.length * 4) rfl rfl (by omega) (by rw [hz2]; omega) (by unfold maxLen; omega) (Nat.le_refl _) ?_; intro w1 ho1 hg1)
  have hb1 : Below w.heap.size w w1 := (Below.refl _ _).grown hg1 (Nat.le_refl _) (by simp)
  clear hg1
  go_loopw [3, 12] (fun s i wr => ∃ (j : Nat) (A' : Option Addr) (n' c' : Nat), j ≤ ws.length ∧ i = .int .i64 (j : Int) ∧ s = .slice A' n' c' ∧ wr.ownsRow w.heap.size 5 1 (.slice A' n' c') n' (cs8 (bytesL (ws.take j))) ∧ Below w.heap.size w wr) (fun _ i _ => ws.length - (intOf i).toNat)
  case atStart => exact ⟨0, _, _, _, Nat.zero_le _, rfl, rfl, ho1, hb1⟩
  case round =>
    clear ho1 hb1
    obtain ⟨j, A', n', c', hj, rfl, rfl, ho, hb⟩ := hrel
    have hbs := hb.size
    by_cases hlt : j < ws.length
    · have HE := hide (bytes_take ws j hlt)
      have hnl : n' ≤ 549755813888 := by
        have h1 := own8_len ho
        rw [bytesL_len, List.length_take] at h1
        omega
      obtain ⟨b, o, u, rfl, _, hu, hcell⟩ := (hr.keep hb hB).get hlt
      rw [cs32_at hlt] at hu
      obtain rfl := Option.some.inj hu
      clear hu
      have hwl := ws[j].toNat_lt
      go_wp2_with (go_at_call 68; refine (lay_any _ _ _ _ 4 ws[j].toNat _ _ ho hbs (by omega) (by omega)).mono ?_; rintro e w2 ⟨A2, n2, c2, rfl, ho2, hb2⟩)
      go_roundw
      case rel => exact ⟨j + 1, A2, n2, c2, by omega, by go_num, rfl, by rw [← HE.out]; exact ho2, hb.trans hb2⟩
      case measure => simp [intOf]; omega
    · obtain rfl : j = ws.length := by omega
      go_wp2
      go_ret
      exact ⟨A', n', c', rfl, by rw [List.take_length] at ho; exact ho, hb⟩
theorem Signed_any (n : UInt32) (w : World) : Calls Tryz.prog 76 #[.int .u32 (n.toNat : Int)] w fun e w' => e = .returned (.int .i32 (wrap32 n.toNat)) ∧ w = w' := by
  go_enter Tryz.func76, Tryz.ntmps76
  go_wp2
  go_ret
  exact ⟨rfl, rfl⟩
theorem Plain_any (a : Int) (w : World) : Calls Tryz.prog 70 #[.int .i32 a] w fun e w' => e = .returned (.int .u32 (a % 4294967296)) ∧ w = w' := by
  go_enter Tryz.func70, Tryz.ntmps70
  go_wp2
  go_ret
  exact ⟨rfl, rfl⟩
end Go.Proofs.YtdikiabjkmigdaaGreatDoor
