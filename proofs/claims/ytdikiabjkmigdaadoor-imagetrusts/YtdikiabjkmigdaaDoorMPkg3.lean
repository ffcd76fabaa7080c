/-
  Contracts of package mac: Right, Seal; arrays of bytes that are compared; bytes.Clone.
-/
import Derived.Test.YtdikiabjkmigdaaDoorMPkg2
import Derived.Test.YtdikiabjkmigdaaDoorSKnown
namespace Go.Proofs.YtdikiabjkmigdaaDoor
set_option maxRecDepth 20000
open Go.RowKit
set_option maxHeartbeats 1600000

theorem eq_items2 {P : Program} (d : Nat) (e : TypeId) (he : P.underlying e = some (.int .u8)) (X Y : List UInt8) (w : World) : ∀ is : List Nat, (∀ i, i ∈ is → i < X.length ∧ i < Y.length) →
    (Op.eqItems (d + 1) e 1 (cs8 X).toArray (cs8 Y).toArray is).run P w = .ok (is.all fun i => X[i]? == Y[i]?) w
  | [], _ => by simp [Op.eqItems]
  | i :: is, h => by
    obtain ⟨hx, hy⟩ := h i (by simp)
    have hagg : (isAgg e).run P w = .ok false w := by
      unfold isAgg
      rw [Sem.run_bind, run_underlying he w]
      simp
    have hp : (part e (cs8 X).toArray (i * 1)).run P w = .ok (.int .u8 (X[i].toNat : Int)) w := by simp [part, hagg, cs8_at hx, Result.andThen]
    have hp2 : (part e (cs8 Y).toArray (i * 1)).run P w = .ok (.int .u8 (Y[i].toNat : Int)) w := by simp [part, hagg, cs8_at hy, Result.andThen]
    have heq := run_equalIn_int (P := P) w d e .u8 .u8 (X[i].toNat : Int) (Y[i].toNat : Int) he
    have ih := eq_items2 d e he X Y w is (fun j hj => h j (by simp [hj]))
    have hb : ((X[i].toNat : Int) == (Y[i].toNat : Int)) = (X[i]? == Y[i]?) := by
      rw [List.getElem?_eq_getElem hx, List.getElem?_eq_getElem hy, Bool.eq_iff_iff]
      simp only [beq_iff_eq, Option.some.injEq]
      rw [← UInt8.toNat_inj]
      omega
    simp only [Op.eqItems, Sem.run_bind, hp, hp2, Result.andThen_ok, heq, List.all_cons, ← hb]
    cases hc : ((X[i].toNat : Int) == (Y[i].toNat : Int)) <;> simp [ih]
theorem all_range {X Y : List UInt8} {n : Nat} (hx : X.length = n) (hy : Y.length = n) : ((List.range n).all fun i => X[i]? == Y[i]?) = decide (X = Y) := by
  rw [Bool.eq_iff_iff, List.all_eq_true, decide_eq_true_iff]
  constructor
  · intro h
    apply List.ext_getElem?
    intro i
    by_cases hi : i < n
    · simpa using h i (by simpa using hi)
    · rw [List.getElem?_eq_none (by omega), List.getElem?_eq_none (by omega)]
  · rintro rfl i _
    simp
theorem eq32_any (X Y : List UInt8) (hx : X.length = 32) (hy : Y.length = 32) (b : Bool) (hb : b = decide (X = Y)) (w : World) : (Op.equalIn 10000 42 (.agg (cs8 X).toArray) (.agg (cs8 Y).toArray)).run Tryd.prog w = .ok b w := by
  obtain ⟨i, hi, -⟩ := info_parts info8
  subst hb
  rw [run_equalIn_array w 9999 _ _ Tryd.underlying42 hi, show Tryd.prog.cellsOf 5 = 1 by kernel_rfl, eq_items2 9998 _ Tryd.underlying5 X Y w _ (fun j hj => ⟨by rw [hx]; simpa using hj, by rw [hy]; simpa using hj⟩), all_range hx hy]
theorem eq64b (X : List UInt8) (h : X.length = 64) (w : World) : (Op.equalIn 10000 56 (.agg (cs8 X).toArray) (.agg (cs8 X).toArray)).run Tryd.prog w = .ok true w := by
  obtain ⟨i, hi, -⟩ := info_parts info8
  rw [run_equalIn_array w 9999 _ _ Tryd.underlying56 hi, show Tryd.prog.cellsOf 5 = 1 by kernel_rfl]
  exact eq_items 9998 _ .u8 Tryd.underlying5 _ w _ (fun j hj => ⟨_, cs8_at (by rw [h]; simpa using hj)⟩)
def RetB (w : World) (b : Bool) (e : Ending) (w' : World) : Prop := e = .returned (.bool b) ∧ Below w.heap.size w w'
theorem splice_all (X : List UInt8) (n : Nat) (h : X.length = n) : splice (cs8 (nulL n)) 0 (cs8 X) = cs8 X := by
  rw [splice_blk X n, h, Nat.sub_self]
  simp [nulL]
theorem Right_any (B : Nat) (Ak : Option Addr) (nk ck : Nat) (k : List UInt8) (A : Option Addr) (n c : Nat) (l : List UInt8) (At : Option Addr) (nt ct : Nat) (t : List UInt8) (w : World) (hk : Row w B Ak nk ck (cs8 k)) (hr : Row w B A n c (cs8 l)) (ht : Row w B At nt ct (cs8 t)) (hB : B ≤ w.heap.size) (hK : KT B w) (hnk : nk ≤ 1073741824) (hl : n ≤ 536870912) :
    Calls Tryd.prog 45 #[.slice Ak nk ck, .slice A n c, .slice At nt ct] w (RetB w (rgtB k l t)) := by
  have htn : t.length = nt := by have := ht.len; rwa [cs8_len] at this
  by_cases h32 : nt = 32
  · subst h32
    obtain ⟨T, HT⟩ : ∃ T, Hid (T = tagL k l) := ⟨_, rfl⟩
    have hT32 : T.length = 32 := by rw [HT.out]; exact tagL_len k l
    obtain ⟨b, HB⟩ : ∃ b, Hid (b = rgtB k l t) := ⟨_, rfl⟩
    have hq := eq32_any t T htn hT32 b (by rw [HB.out, HT.out]; rfl)
    have htl : (cs8 t).length = 32 := by rw [cs8_len]; exact htn
    have HS := hide (splice_all t 32 htn)
    rw [← HB.out]
    clear htn hT32
    go_enter Tryd.func45, Tryd.ntmps45
    go_wp2_with (refine wpList_copy_splice rfl (.tmp 11) (.tmp 12) 29 29 rfl 5 Tryd.underlying29 size8 _ _ _ _ _ _ rfl rfl w.heap.size 0 (cs8 (nulL 32)) 42 (Blk.at _ _ _ (by simp)) (cs8 t) (by rw [htl]; rfl) (fun hp => ⟨rfl, (ht.alloc hB _).src hp⟩) (by rw [htl]; simp [cs8, nulL]) (cs8_one _) w.heap.size w ((Below.refl _ _).alloc (Nat.le_refl _) _) (Nat.le_refl _) ?_; intro w2 HG hb2; rw [HS.out] at HG)
    have h7 : Blk w2 w.heap.size 42 (cs8 t) := HG.out
    have h7d := h7.drew
    have hb2d := hb2.drew
    have hs2 := hb2d.size
    have hl7 := hide h7d.lt
    clear HG hb2 h7
    have hu := Tryd.underlying42
    have hiX : (Tryd.prog.info? 42).map (·.size) = some (cs8 t).length := by rw [htl]; exact size32b
    refine wp_region_held_drew (S := fun w' => w'.rangeAt w.heap.size 0 (cs8 t)) (by kernel_rfl) h7d.range (fun hS0 => ?_)
    refine wpAnyH_take (i := 0) rfl (by kernel_rfl) (by kernel_rfl) (by kernel_rfl) (fun _ _ _ h => h) (yieldsIf_load_mid (by rfl) _ _ rfl _ _ rfl (cs8 t) _ (fun _ h => h) hu rfl hiX) (by assumption) ?_
    simp only [List.getElem_toArray, List.getElem_cons_zero, Act.put, List.setIfInBounds_toArray, List.set_cons_zero, List.set_cons_succ]
    refine wpAnyH_take (i := 1) (v := .slice Ak nk ck) rfl (by kernel_rfl) (by kernel_rfl) (by kernel_rfl) (fun _ _ _ h => h) (Or.inl ⟨by rfl, fun w _ => by go_simp⟩) (by assumption) ?_
    simp only [List.getElem_toArray, List.getElem_cons_zero, List.getElem_cons_succ, Act.put, List.setIfInBounds_toArray, List.set_cons_zero, List.set_cons_succ]
    refine wpAnyH_take (i := 2) (v := .slice A n c) rfl (by kernel_rfl) (by kernel_rfl) (by kernel_rfl) (fun _ _ _ h => h) (Or.inl ⟨by rfl, fun w _ => by go_simp⟩) (by assumption) ?_
    simp only [List.getElem_toArray, List.getElem_cons_zero, List.getElem_cons_succ, Act.put, List.setIfInBounds_toArray, List.set_cons_zero, List.set_cons_succ]
    refine wpAnyH_ready (rs := [3]) (by kernel_rfl) (by simp) ?_
    refine AllReadyH.cons rfl (fun K hKK => ?_) AllReadyH.nil
    go_simp
    refine (Tag_any B Ak nk ck k A n c l _ (hk.keep hb2d hB) (hr.keep hb2d hB) (by omega) (hK.keep hb2d hB) hnk hl).mono ?_
    rw [← HT.out]
    rintro e w3 ⟨rfl, hb3⟩
    have h73 := h7d.keep hb3 hl7.out
    have hb03 := hb2d.trans (hb3.mono hs2)
    refine hKK.out _ _ (h73.range) (fun hS3 => ?_)
    clear hKK
    refine wpAnyH_take (i := 4) (v := .bool b) rfl (by kernel_rfl) (by kernel_rfl) (by kernel_rfl) (fun _ _ _ h => h) (Or.inl ⟨by rfl, fun w _ => by go_simp⟩) (by assumption) ?_
    simp only [List.getElem_toArray, List.getElem_cons_zero, List.getElem_cons_succ, Act.put, List.setIfInBounds_toArray, List.set_cons_zero, List.set_cons_succ]
    refine wpAnyH_take (i := 5) (v := .bool b) rfl (by kernel_rfl) (by kernel_rfl) (by kernel_rfl) (fun _ _ _ h => h) (Or.inl ⟨by rfl, fun w _ => by go_simp⟩) (by assumption) ?_
    simp only [List.getElem_toArray, List.getElem_cons_zero, List.getElem_cons_succ, Act.put, List.setIfInBounds_toArray, List.set_cons_zero, List.set_cons_succ]
    refine wpAnyH_done (by kernel_rfl) ?_ _
    go_wp2
    go_ret
    exact ⟨rfl, hb03⟩
  · have hd : ((nt : Int) != 32) = true := by simp; omega
    have HB := hide (rgtB_len (k := k) (b := l) (show t.length ≠ 32 by omega))
    go_enter Tryd.func45, Tryd.ntmps45
    go_wp2
    go_ret
    exact ⟨by rw [HB.out]; rfl, Below.refl _ _⟩
theorem Seal_any (B : Nat) (Ak : Option Addr) (nk ck : Nat) (k : List UInt8) (A : Option Addr) (n c : Nat) (l : List UInt8) (w : World) (hk : Row w B Ak nk ck (cs8 k)) (hr : Row w B A n c (cs8 l)) (hB : B ≤ w.heap.size) (hK : KT B w) (hnk : nk ≤ 1073741824) (hl : n ≤ 536870912) :
    Calls Tryd.prog 16 #[.slice Ak nk ck, .slice A n c] w (LayPost w.heap.size w (sealT k l)) := by
  obtain ⟨T, HT⟩ : ∃ T, Hid (T = tagL k l) := ⟨_, rfl⟩
  have hTl : (cs8 T).length = 32 := by rw [cs8_len, HT.out]; exact tagL_len k l
  have HS : Hid (sealT k l = l ++ T) := by show _ = _; rw [HT.out]; rfl
  rw [HS.out]
  go_enter Tryd.func16, Tryd.ntmps16
  go_wp2_with fail
  refine (Tag_any B Ak nk ck k A n c l _ hk hr hB hK hnk hl).mono ?_
  rw [← HT.out]
  rintro e w1 ⟨rfl, hb1⟩
  have hs1 := hb1.size
  go_wp2_with (refine wpList_storeB rfl 42 (.tmp 5) (.tmp 8) rfl w1.heap.size (cs8 T) rfl rfl 42 (cs8 (nulL 32)) (Blk.at _ _ _ rfl) 32 size32b hTl rfl (cs8_one _) ?_; rw [World.setRow_alloc_new]; have h52 := Blk.new w1 42 (cs8 T); have hb2 := (Below.refl w1.heap.size w1).alloc (Nat.le_refl _) (.cells (cs8 T).toArray 42 (0, 0)); generalize World.alloc w1 _ = w2 at h52 hb2 ⊢)
  have hb02 := hb1.trans (hb2.mono hs1)
  have hs2 := hb02.size
  have hb03 := hb02.alloc hs2 (.cells #[.slice A n c, .slice (some ⟨w1.heap.size, 0, none⟩) 32 32] 29)
  refine (Concat_two (w2.heap.size + 1) _ A (some ⟨w1.heap.size, 0, none⟩) n 32 c 32 l T _ (row_lit _ _ _ _ 2 rfl (by unfold maxLen; omega) _ rfl) ((hr.keep hb03 hB).more (by omega)) (((h52.whole hTl (by unfold maxLen; omega)).alloc (Nat.le_refl _) _).more (by omega)) (by simp) (by omega) (by omega) (by omega)).mono ?_
  rintro e w4 ⟨A7, n7, c7, rfl, ho7, hb7⟩
  go_wp2
  go_ret
  exact ⟨A7, n7, c7, rfl, own_base (by simp; omega) ho7, hb03.trans (hb7.mono (by simp; omega))⟩
theorem eq_nil_in {P : Program} (d : Nat) (t e : TypeId) (h : P.underlying t = some (.slice e)) (A : Option Addr) (n c : Nat) (w : World) : (Op.equalIn (d + 1) t (.slice A n c) (.slice none 0 0)).run P w = .ok A.isNone w := by
  cases A <;> simp [Op.equalIn, run_underlying h]
theorem eq_nil (A : Option Addr) (n c : Nat) (w : World) : (binOp .eql 29 (.slice A n c) (.slice none 0 0)).run Tryd.prog w = .ok (.bool A.isNone) w := by
  have h : (Op.equal 29 (.slice A n c) (.slice none 0 0)).run Tryd.prog w = .ok A.isNone w := eq_nil_in 9999 29 5 Tryd.underlying29 A n c w
  simp only [binOp]
  simp [h]
theorem Clone_any (B : Nat) (A : Option Addr) (n c : Nat) (l : List UInt8) (w : World) (hr : Row w B A n c (cs8 l)) (hB : B ≤ w.heap.size) (hl : n ≤ 1099511627776) :
    Calls Tryd.prog 46 #[.slice A n c] w (LayPost w.heap.size w l) := by
  obtain ⟨i0, hi, hz0, hz1, hz2⟩ := info_parts info8
  have hq := eq_nil A n c w
  rcases A with _ | ad
  · have h0 := hr.nil rfl
    have hc := hr.cap
    obtain rfl : n = 0 := by omega
    subst h0
    obtain rfl : l = [] := List.eq_nil_of_length_eq_zero (by have := hr.len; rwa [cs8_len] at this)
    go_enter Tryd.func46, Tryd.ntmps46
    go_wp2
    go_ret
    exact ⟨_, _, _, rfl, World.ownsRow_nil _ _ _ _, Below.refl _ _⟩
  · go_enter Tryd.func46, Tryd.ntmps46
    go_wp2_with (at_builtin; refine wpList_append_row rfl (.tmp 5) (.tmp 6) 29 rfl w.heap.size 5 i0 _ 1 Tryd.underlying29 hi hz0 hz1 hz2 rfl _ 0 [] rfl (World.ownsRow_lit (size := 1) w #[] 0 (Nat.le_refl _) (Nat.zero_le _) rfl) B _ _ _ _ rfl (hr.alloc hB _) (cs8_one l) (by unfold maxLen; omega) (by omega) w ((Below.refl _ _).alloc (Nat.le_refl _) _) (Nat.le_refl _) ?_; intro A2 c2 w2 ho2 hb2 hg2; simp only [Nat.zero_add, List.nil_append] at ho2)
    go_ret
    exact ⟨A2, _, c2, rfl, by simpa using ho2, hb2⟩
end Go.Proofs.YtdikiabjkmigdaaDoor
