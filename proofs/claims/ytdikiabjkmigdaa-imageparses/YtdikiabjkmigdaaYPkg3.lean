/-
  Contracts of package image: bytesOf, valuesOf.
-/
import Derived.Test.YtdikiabjkmigdaaYPkg2
import Derived.Test.YtdikiabjkmigdaaIPkg4
namespace Go.Proofs.Ytdikiabjkmigdaa
open Go.RowKit
set_option maxRecDepth 20000
set_option maxHeartbeats 2000000

def wsF (fs : List Int) : List UInt32 := fs.map fun v => word (plN v)
theorem wsF_len (fs : List Int) : (wsF fs).length = fs.length := by simp [wsF]
theorem wsF_next {fs : List Int} {j : Nat} (h : j < fs.length) : cs32 (wsF (fs.take (j + 1))) = cs32 (wsF (fs.take j)) ++ [.int .u32 ((plN (gd fs j) : Nat) : Int)] := by
  have e : (word (plN (gd fs j))).toNat = plN (gd fs j) := by rw [word_toNat]; exact Nat.mod_eq_of_lt (plN_lt _)
  rw [List.take_succ_eq_append_getElem h, ← gd_lt h]
  simp only [wsF, List.map_append, List.map_cons, List.map_nil]
  rw [cs32_snoc, e]
theorem fsB_ws (fs : List Int) : bytesL (wsF fs) = fsB fs := rfl
theorem bytesOf_any (B : Nat) (A : Option Addr) (n c : Nat) (fs : List Int) (w : World) (hr : Row w B A n c (c32 fs)) (hB : B ≤ w.heap.size) (hl : n ≤ 1073741824) :
    Calls Try.prog 33 #[.slice A n c] w (LayPost w.heap.size w (fsB fs)) := by
  obtain ⟨i0, hi, hz0, hz1, hz2⟩ := info_parts info32
  have hn := row_len hr
  subst hn
  go_enter Try.func33, Try.ntmps33
  go_wp2_with (at_make; refine wpList_make_own _ rfl _ _ 89 rfl w.heap.size 22 i0 (.int .u32 0) 1 Try.underlying89 hi hz0 hz1 _ _ _ fs.length rfl rfl (by omega) (by rw [hz2]; omega) (by unfold maxLen; omega) (Nat.le_refl _) ?_; intro w1 ho1 hg1)
  have hb1 : Below w.heap.size w w1 := (Below.refl _ _).grown hg1 (Nat.le_refl _) (by simp)
  clear hg1
  go_loopw [3, 11] (fun s i wr => ∃ (j : Nat) (A' : Option Addr) (n' c' : Nat), j ≤ fs.length ∧ i = .int .i64 (j : Int) ∧ s = .slice A' n' c' ∧ wr.ownsRow w.heap.size 22 1 (.slice A' n' c') n' (cs32 (wsF (fs.take j))) ∧ Below w.heap.size w wr) (fun _ i _ => fs.length - (intOf i).toNat)
  case atStart => exact ⟨0, _, _, _, Nat.zero_le _, rfl, rfl, ho1, hb1⟩
  case round =>
    clear ho1 hb1
    obtain ⟨j, A', n', c', hj, rfl, rfl, ho, hb⟩ := hrel
    have hbs := hb.size
    have hnl : n' ≤ 1073741824 := by
      have h1 := own32_len ho
      rw [wsF_len, List.length_take] at h1
      omega
    by_cases hlt : j < fs.length
    · have HE := hide (wsF_next hlt)
      obtain ⟨b, o, u, rfl, _, hu, hcell⟩ := (hr.keep hb hB).get hlt
      rw [c32_at hlt] at hu
      obtain rfl := Option.some.inj hu
      clear hu
      obtain ⟨v, hv⟩ : ∃ v, v = gd fs j := ⟨_, rfl⟩
      rw [← hv] at hcell HE
      clear hv
      obtain ⟨p, hp⟩ : ∃ p, p = plN v := ⟨_, rfl⟩
      rw [← hp] at HE
      have HP := hide hp.symm
      have hp4 := plN_lt v
      rw [← hp] at hp4
      clear hp
      go_wp2_with (first
        | (go_at_call 60; refine (Plain_p v _ p HP.out).mono ?_; rintro e w' ⟨rfl, rfl⟩)
        | (at_builtin; refine wpList_append_row rfl (.tmp 15) (.tmp 18) 89 rfl w.heap.size 22 i0 _ 4 Try.underlying89 hi hz0 hz1 hz2 rfl _ _ _ rfl (ho.alloc _) _ _ _ _ _ rfl (Row.one _ _ _) (one_u32 _) (by unfold maxLen; omega) (by omega) w (hb.alloc (by omega) _) (Nat.le_refl _) ?_; intro A2 c2 w2 ho2 hb2 hg2))
      go_roundw
      case rel => exact ⟨j + 1, A2, n' + 1, c2, by omega, by go_num, rfl, by rw [HE.out]; exact ho2, hb2⟩
      case measure => simp [intOf]; omega
    · obtain rfl : j = fs.length := by omega
      rw [List.take_length] at ho
      have hR := Row.of_own ho
      go_wp2_with (go_at_call 61; refine (Bytes_any _ _ _ _ _ _ hR (Nat.le_refl _) (by omega)).mono ?_; rintro e w3 ⟨A3, n3, c3, rfl, ho3, hb3⟩)
      go_ret
      exact ⟨A3, n3, c3, rfl, own_base hbs ho3, hb.trans (hb3.mono hbs)⟩
/-- Numbers in new memory. -/
def GivesN (w : World) (r : List Int) (e : Ending) (w' : World) : Prop := ∃ A n c, e = .returned (.slice A n c) ∧ w'.ownsRow w.heap.size 21 1 (.slice A n c) n (c32 r) ∧ Below w.heap.size w w'
def fvW (ws : List UInt32) : List Int := ws.map fun c => wrap32 c.toNat
theorem fvW_next {ws : List UInt32} {j : Nat} (h : j < ws.length) : c32 (fvW (ws.take (j + 1))) = c32 (fvW (ws.take j)) ++ [.int .i32 (wrap32 (ws[j].toNat : Int))] := by
  rw [List.take_succ_eq_append_getElem h]
  simp only [fvW, c32, List.map_append, List.map_cons, List.map_nil]
theorem one_i32 (n : Int) : ∀ u ∈ [Value.int .i32 n], u.oneCell' = true := by
  intro u hu; rw [List.mem_singleton] at hu; subst hu; rfl
theorem fsV_ws {x : List UInt8} (h : x.length % 4 = 0) : fvW (wordsL x) = fsV x := by
  unfold fvW fsV wordsL
  rw [show (x.length + 3) / 4 = x.length / 4 by omega]
theorem ownN_len {w : World} {base : Nat} {e : TypeId} {v : Value} {n : Nat} {l : List Int} (h : w.ownsRow base e 1 v n (c32 l)) : l.length = n := by
  have := h.1; rw [c32_len] at this; omega
theorem valuesOf_any (B : Nat) (A : Option Addr) (n c : Nat) (l : List UInt8) (w : World) (hr : Row w B A n c (cs8 l)) (hB : B ≤ w.heap.size) (hl : n ≤ 1073741824) (h4 : l.length % 4 = 0) :
    Calls Try.prog 51 #[.slice A n c] w (GivesN w (fsV l)) := by
  obtain ⟨i0, hi, hz0, hz1, hz2⟩ := info_parts infoN
  have hlen : (wordsL l).length ≤ 1073741824 := by
    have h1 := hr.len
    rw [cs8_len] at h1
    unfold wordsL
    rw [wordsK_len]
    omega
  have HF := hide (fsV_ws h4)
  obtain ⟨ws, hw⟩ : ∃ ws, ws = wordsL l := ⟨_, rfl⟩
  rw [← hw] at HF hlen
  have HW := hide hw
  clear hw h4
  go_enter Try.func51, Try.ntmps51
  go_wp2_with fail
  refine (Words_any B A n c l w hr hB (by omega)).mono ?_
  rw [← HW.out]
  rintro e w0 ⟨Aw, nw, cw, rfl, how, hbw⟩
  have hnw := own32_len how
  subst hnw
  have hbs := hbw.size
  have hR := Row.of_own how
  clear how
  go_wp2_with (at_make; refine wpList_make_own _ rfl _ _ 25 rfl w0.heap.size 21 i0 (.int .i32 0) 1 Try.underlying25 hi hz0 hz1 _ _ _ ws.length rfl rfl (by omega) (by rw [hz2]; omega) (by unfold maxLen; omega) (Nat.le_refl _) ?_; intro w1 ho1 hg1)
  have hb1 : Below w0.heap.size w0 w1 := (Below.refl _ _).grown hg1 (Nat.le_refl _) (by simp)
  clear hg1
  go_loopw [4, 14] (fun s i wr => ∃ (j : Nat) (A' : Option Addr) (n' c' : Nat), j ≤ ws.length ∧ i = .int .i64 (j : Int) ∧ s = .slice A' n' c' ∧ wr.ownsRow w0.heap.size 21 1 (.slice A' n' c') n' (c32 (fvW (ws.take j))) ∧ Below w0.heap.size w0 wr) (fun _ i _ => ws.length - (intOf i).toNat)
  case atStart => exact ⟨0, _, _, _, Nat.zero_le _, rfl, rfl, ho1, hb1⟩
  case round =>
    clear ho1 hb1
    obtain ⟨j, A', n', c', hj, rfl, rfl, ho, hb⟩ := hrel
    have hR2 := hR.keep hb (Nat.le_refl _)
    have hbs2 := hb.size
    have hnl : n' ≤ 1073741824 := by
      have h1 := ownN_len ho
      simp only [fvW, List.length_map, List.length_take] at h1
      omega
    by_cases hlt : j < ws.length
    · have HE := hide (fvW_next hlt)
      obtain ⟨b, o, u, rfl, _, hu, hcell⟩ := hR2.get hlt
      rw [cs32_at hlt] at hu
      obtain rfl := Option.some.inj hu
      clear hu
      have hwl := ws[j].toNat_lt
      obtain ⟨x, hx⟩ : ∃ x, x = wrap32 (ws[j].toNat : Int) := ⟨_, rfl⟩
      rw [← hx] at HE
      have HX := hide hx.symm
      clear hx
      go_wp2_with (first
        | (go_at_call 74; refine (Signed_x _ x _ (by omega) HX.out).mono ?_; rintro e w' ⟨rfl, rfl⟩)
        | (at_builtin; have zz := (hb.alloc (show w0.heap.size ≤ wr.heap.size by omega) (.cells #[Value.int .i32 x] 21)); refine wpList_append_row rfl (.tmp 18) (.tmp 21) 25 rfl w0.heap.size 21 i0 _ 4 Try.underlying25 hi hz0 hz1 hz2 rfl _ _ _ rfl (ho.alloc _) _ _ _ _ _ rfl (Row.one _ _ _) (one_i32 _) (by unfold maxLen; omega) (by omega) w0 (hb.alloc (by omega) _) (Nat.le_refl _) ?_; intro A2 c2 w2 ho2 hb2 hg2))
      go_roundw
      case rel => exact ⟨j + 1, A2, n' + 1, c2, by omega, by go_num, rfl, by rw [HE.out]; exact ho2, hb2⟩
      case measure => simp [intOf]; omega
    · obtain rfl : j = ws.length := by omega
      rw [List.take_length] at ho
      go_wp2
      go_ret
      exact ⟨A', n', c', rfl, by rw [← HF.out]; exact own_base hbs ho, hbw.trans (hb.mono hbs)⟩

end Go.Proofs.Ytdikiabjkmigdaa
