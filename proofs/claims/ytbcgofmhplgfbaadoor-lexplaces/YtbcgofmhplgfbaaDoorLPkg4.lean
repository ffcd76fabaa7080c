/-
  Contracts of package lex: the token with which a text begins.
-/
import Derived.Test.YtbcgofmhplgfbaaDoorLPkg3
namespace Go.Proofs.YtbcgofmhplgfbaaDoor
open Go.RowKit
set_option maxHeartbeats 1000000

/-- A token without its place, and a fault. -/
def GivesF (w : World) (f : Fst) (e : Ending) (w' : World) : Prop :=
  e = .returned (.tuple #[.agg #[.int .i64 f.2.1, .string (str f.2.2.1), .int .i32 f.2.2.2, .int .i64 0], .int .i64 f.1]) ∧ Below w.heap.size w w'
theorem GivesF.of {w w' : World} {f : Fst} {er kd nv : Int} {tx : ByteArray} (h : f = (er, kd, tx.data.toList, nv)) (hb : Below w.heap.size w w') : GivesF w f (.returned (.tuple #[.agg #[.int .i64 kd, .string tx, .int .i32 nv, .int .i64 0], .int .i64 er])) w' := by
  subst h
  exact ⟨by rw [show str _ = tx from str_of tx], hb⟩
theorem below_new (w : World) (o : Obj) : Below w.heap.size w (w.alloc o) := (Below.refl _ w).alloc (Nat.le_refl _) _
theorem word_t {w : List UInt8} (h : isWord w = true) : wordT w = (0, 3, w, 0) := by unfold wordT; rw [h]; rfl
theorem word_b {w : List UInt8} (h : isWord w = false) (h2 : 16 < w.length) : wordT w = (3, 0, [], 0) := by unfold wordT; rw [h]; simp [h2]
theorem word_n {w : List UInt8} (h : isWord w = false) (h2 : ¬ 16 < w.length) : wordT w = (0, 1, w, 0) := by unfold wordT; rw [h]; simp [h2]
theorem wordToken_any (s : ByteArray) (hs : s.size ≤ maxLen) (w : World) : Calls Tryd.prog 37 #[.string s] w (GivesF w (wordT s.data.toList)) := by
  unfold maxLen at hs
  have hsz := size_list s
  rcases h1 : isWord s.data.toList
  · by_cases h2 : 16 < s.size
    · have E := hide (word_b h1 (by rw [hsz]; exact h2))
      have H1 := hide h1
      clear h1 hsz
      go_enter Tryd.func37, Tryd.ntmps37
      go_wp2_with (refine (Word_any s _).mono ?_; rw [H1.out]; rintro e w' ⟨rfl, rfl⟩)
      exact ret_tok (g := w.heap.size) rfl rfl rfl (Blk.new w _ _) rfl (GivesF.of (tx := ⟨#[]⟩) E.out (below_new _ _))
    · have E := hide (word_n h1 (by rw [hsz]; exact h2))
      have H1 := hide h1
      clear h1 hsz
      go_enter Tryd.func37, Tryd.ntmps37
      go_wp2_with (refine (Word_any s _).mono ?_; rw [H1.out]; rintro e w' ⟨rfl, rfl⟩)
      exact ret_tok (g := w.heap.size) rfl rfl rfl (Blk.new w _ _) rfl (GivesF.of E.out (below_new _ _))
  · have E := hide (word_t h1)
    have H1 := hide h1
    clear h1 hsz
    go_enter Tryd.func37, Tryd.ntmps37
    go_wp2_with (refine (Word_any s _).mono ?_; rw [H1.out]; rintro e w' ⟨rfl, rfl⟩)
    exact ret_tok (g := w.heap.size) rfl rfl rfl (Blk.new w _ _) rfl (GivesF.of E.out (below_new _ _))

/-- What wrap.Read answers of a text. -/
theorem Read_any (s : ByteArray) (hs : s.size ≤ 100000) (w : World) (he : Env w) :
    Calls Tryd.prog 43 #[.string s] w fun e w' => e = .returned (.tuple #[.int .i32 ((readN s.data.toList).getD 0), .bool (readN s.data.toList).isSome]) ∧ Below w.heap.size w w' := by
  rcases hx : Lib.parseIntB 32 s.data.toList with v | _ | _
  · have hbd := Lib.parseIntB_bounds hx
    have v1 : -2147483648 ≤ v := by have := hbd.1; simp at this; omega
    have v2 : v ≤ 2147483647 := by have := hbd.2; simp at this; omega
    by_cases h : Lib.itoa v = s.data.toList
    · have hr : readN s.data.toList = some v := by unfold readN; rw [hx]; exact if_pos h
      have hs' : (⟨(Lib.itoa v).toArray⟩ : ByteArray) = s := by rw [h]
      rw [hr]
      have := read_yes v v1 v2 w he.tab
      rw [hs'] at this
      exact this
    · have hr : readN s.data.toList = none := by unfold readN; rw [hx]; exact if_neg h
      rw [hr]
      refine read_no s hs ?_ w he
      intro a a1 a2 e
      apply h
      have e2 : s.data.toList = Lib.itoa a := by rw [← e]
      have := parse_itoa a1 a2
      rw [← e2, hx] at this
      injection this with this
      rw [this, e2]
  all_goals
    have hr : readN s.data.toList = none := by unfold readN; rw [hx]
    rw [hr]
    refine read_no s hs ?_ w he
    intro a a1 a2 e
    have e2 : s.data.toList = Lib.itoa a := by rw [← e]
    have := parse_itoa a1 a2
    rw [← e2, hx] at this
    cases this
theorem num_y {w : List UInt8} {v : Int} (h : readN w = some v) : numT w = (0, 2, w, v) := by unfold numT; rw [h]
theorem num_n {w : List UInt8} (h : readN w = none) : numT w = (16, 0, [], 0) := by unfold numT; rw [h]
theorem numberToken_any (s : ByteArray) (hs : s.size ≤ 100000) (w : World) (he : Env w) : Calls Tryd.prog 38 #[.string s] w (GivesF w (numT s.data.toList)) := by
  have hr := Read_any s hs
  rcases h1 : readN s.data.toList with _ | v
  · rw [h1] at hr
    have E := hide (num_n h1)
    have HR := hide hr
    have he1 := he.keep (below_new w (.cells #[.int .i64 0, .string ByteArray.empty, .int .i32 0, .int .i64 0] 26))
    clear h1 hr
    go_enter Tryd.func38, Tryd.ntmps38
    go_wp2_with fail
    refine (HR.out _ he1).mono ?_
    rintro e w1 ⟨rfl, b1⟩
    have bR := (Blk.new w 26 [.int .i64 0, .string ByteArray.empty, .int .i32 0, .int .i64 0]).keep b1 (by simp)
    have hb := (below_new w _).trans (b1.mono (by simp))
    have f0 := bR.frozen
    have c0 := bR.cell (j := 0) rfl
    have c1 := bR.cell (j := 1) rfl
    have c2 := bR.cell (j := 2) rfl
    have c3 := bR.cell (j := 3) rfl
    clear b1 HR he he1
    go_wp2
    exact ret_tok (g := w.heap.size) rfl rfl rfl ((((bR.set 0 _).set 1 _).set 2 _).set 3 _) rfl (GivesF.of (tx := ⟨#[]⟩) E.out (below_set (below_set (below_set (below_set hb (Nat.le_refl _) _) (Nat.le_refl _) _) (Nat.le_refl _) _) (Nat.le_refl _) _))
  · rw [h1] at hr
    have E := hide (num_y h1)
    have HR := hide hr
    have he1 := he.keep (below_new w (.cells #[.int .i64 0, .string ByteArray.empty, .int .i32 0, .int .i64 0] 26))
    clear h1 hr
    go_enter Tryd.func38, Tryd.ntmps38
    go_wp2_with fail
    refine (HR.out _ he1).mono ?_
    rintro e w1 ⟨rfl, b1⟩
    have bR := (Blk.new w 26 [.int .i64 0, .string ByteArray.empty, .int .i32 0, .int .i64 0]).keep b1 (by simp)
    have hb := (below_new w _).trans (b1.mono (by simp))
    have f0 := bR.frozen
    have c0 := bR.cell (j := 0) rfl
    have c1 := bR.cell (j := 1) rfl
    have c2 := bR.cell (j := 2) rfl
    have c3 := bR.cell (j := 3) rfl
    clear b1 HR he he1
    go_wp2
    exact ret_tok (g := w.heap.size) rfl rfl rfl ((((bR.set 0 _).set 1 _).set 2 _).set 3 _) rfl (GivesF.of E.out (below_set (below_set (below_set (below_set hb (Nat.le_refl _) _) (Nat.le_refl _) _) (Nat.le_refl _) _) (Nat.le_refl _) _))
/-- What is left of the search for a mark. -/
def mkB (l : List UInt8) (k : Nat) : Nat := if 0 < k ∧ isMark (l.take k) = true then k else if 1 < k ∧ isMark (l.take (k - 1)) = true then k - 1 else 0
theorem mk_start (s : ByteArray) {k : Nat} (h : (2 ≤ s.size ∧ k = 2) ∨ (s.size < 2 ∧ k = s.size)) : mkB s.data.toList k = mkN s.data.toList := by
  have hsz := size_list s
  unfold mkB mkN
  rcases h with ⟨h, rfl⟩ | ⟨h, rfl⟩
  · rw [List.length_take, Nat.min_eq_left (by omega)]
    by_cases h1 : isMark (s.data.toList.take 2) = true
    · rw [if_pos ⟨by omega, h1⟩, if_pos h1]
    · rw [if_neg (fun e => h1 e.2), if_neg h1]
      by_cases h2 : isMark (s.data.toList.take 1) = true
      · rw [if_pos ⟨by omega, h2⟩, if_pos h2]
      · rw [if_neg (fun e => h2 e.2), if_neg h2]
  · rcases (show s.size = 0 ∨ s.size = 1 by omega) with e | e
    · have hl : s.data.toList = [] := List.eq_nil_of_length_eq_zero (by omega)
      rw [hl, e]; decide
    · obtain ⟨d, hl⟩ := List.length_eq_one_iff.1 (hsz.trans e)
      rw [hl, e]
      rcases h1 : isMark [d] <;> simp [h1]
theorem mk_hit {l : List UInt8} {k : Nat} (h0 : 0 < k) (h : isMark (l.take k) = true) : mkB l k = k := if_pos ⟨h0, h⟩
theorem mk_miss {l : List UInt8} {k : Nat} (h0 : 0 < k) (h2 : k ≤ 2) (h : isMark (l.take k) = false) : mkB l k = mkB l (k - 1) := by
  unfold mkB
  rw [if_neg (by rw [h]; simp)]
  rcases (show k = 1 ∨ k = 2 by omega) with rfl | rfl
  · simp
  · by_cases h1 : isMark (l.take 1) = true
    · rw [if_pos ⟨by omega, h1⟩, if_pos ⟨by omega, h1⟩]
    · rw [if_neg (fun e => h1 e.2), if_neg (fun e => h1 e.2), if_neg (by omega)]
theorem head_list (s : ByteArray) (i : Nat) : (s.extract 0 i).data.toList = s.data.toList.take i := by
  rw [ext_list]; simp
theorem markSize_any (s : ByteArray) (hs : s.size ≤ maxLen) (w : World) : Calls Tryd.prog 39 #[.string s] w fun e w' => e = .returned (.int .i64 (mkN s.data.toList : Nat)) ∧ w = w' := by
  unfold maxLen at hs
  obtain ⟨k0, hk0⟩ : ∃ k : Nat, (2 ≤ s.size ∧ k = 2) ∨ (s.size < 2 ∧ k = s.size) := by
    by_cases h : 2 ≤ s.size
    · exact ⟨2, .inl ⟨h, rfl⟩⟩
    · exact ⟨s.size, .inr ⟨by omega, rfl⟩⟩
  have hmin : ∀ ts t W, (Builtin.min_ ts t #[.int .i64 2, .int .i64 (s.size : Int)]).run Tryd.prog W = .ok (.int .i64 (k0 : Int)) W := by
    intro ts t W
    have e : (if (s.size : Int) < 2 then (s.size : Int) else 2) = (k0 : Int) := by split <;> omega
    rw [← e]
    simp [Builtin.min_, Builtin.min2]
  have HS := hide (mk_start s hk0)
  have hk2 : k0 ≤ 2 := by omega
  have hks : k0 ≤ s.size := by omega
  clear hk0
  go_enter Tryd.func39, Tryd.ntmps39
  go_wp2_with fail
  go_loop [3] (fun a => ∃ k : Nat, a = .int .i64 (k : Int) ∧ k ≤ 2 ∧ k ≤ s.size ∧ Hid (mkB s.data.toList k = mkN s.data.toList)) (fun a => (intOf a).toNat)
  case atStart => exact ⟨k0, rfl, hk2, hks, HS⟩
  case round =>
    obtain ⟨k, rfl, h2, hz, HK⟩ := hrel
    by_cases h0 : 0 < k
    · have HL := hide (head_list s k)
      rcases hm : isMark (s.data.toList.take k)
      · have HM := hide hm
        have HN := hide (mk_miss h0 h2 hm)
        clear hm
        go_wp2_with (refine (Mark_any _ _).mono ?_; rw [HL.out, HM.out]; rintro e w' ⟨rfl, rfl⟩)
        go_round
        case rel => exact ⟨k - 1, by go_num, by omega, by omega, hide (by rw [← HN.out]; exact HK.out)⟩
        case measure => simp [intOf]; omega
      · have HM := hide hm
        have HN := hide (mk_hit h0 hm)
        clear hm
        go_wp2_with (refine (Mark_any _ _).mono ?_; rw [HL.out, HM.out]; rintro e w' ⟨rfl, rfl⟩)
        go_ret
        exact ⟨ret_n (by rw [← HK.out, HN.out]), rfl⟩
    · obtain rfl : k = 0 := by omega
      go_wp2
      go_ret
      exact ⟨ret_n (by rw [← HK.out]; rfl), rfl⟩
theorem f_let {l : List UInt8} (h : 0 < runL isLet l) : firstT l = wordT (l.take (runL inW l)) := if_pos h
theorem f_dig {l : List UInt8} (h : ¬ 0 < runL isLet l) (h2 : 0 < runL isDig l) : firstT l = numT (l.take (runL isDig l)) := by unfold firstT; rw [if_neg h, if_pos h2]
theorem f_mark {l : List UInt8} (h : ¬ 0 < runL isLet l) (h2 : ¬ 0 < runL isDig l) (h3 : 0 < mkN l) : firstT l = (0, 4, l.take (mkN l), 0) := by unfold firstT; rw [if_neg h, if_neg h2, if_pos h3]
theorem f_none {l : List UInt8} (h : ¬ 0 < runL isLet l) (h2 : ¬ 0 < runL isDig l) (h3 : ¬ 0 < mkN l) : firstT l = (15, 0, [], 0) := by unfold firstT; rw [if_neg h, if_neg h2, if_neg h3]
theorem GivesF.set {w w' : World} {f : Fst} (h : Below w.heap.size w w') : GivesF w f (.returned (.tuple #[.agg #[.int .i64 f.2.1, .string (str f.2.2.1), .int .i32 f.2.2.2, .int .i64 0], .int .i64 f.1])) w' := ⟨rfl, h⟩
theorem first_any (s : ByteArray) (hs : s.size ≤ 100000) (w : World) (he : Env w) : Calls Tryd.prog 29 #[.string s] w (GivesF w (firstT s.data.toList)) := by
  have hw := run_le inW s
  have hd := run_le isDig s
  have hm : mkN s.data.toList ≤ s.size := by have := mkN_le s.data.toList; rwa [size_list] at this
  by_cases h1 : 0 < runL isLet s.data.toList
  · have E := hide (f_let h1)
    obtain ⟨F, hF⟩ : ∃ F, wordT (s.data.toList.take (runL inW s.data.toList)) = F := ⟨_, rfl⟩
    have HF := hide hF
    rw [E.out, hF]
    clear hF
    go_enter Tryd.func29, Tryd.ntmps29
    go_wp2_with fail
    have bR := Blk.new w 26 [.int .i64 0, .string ⟨#[]⟩, .int .i32 0, .int .i64 0]
    have hb := below_new w (.cells #[.int .i64 0, .string ⟨#[]⟩, .int .i32 0, .int .i64 0] 26)
    generalize w.alloc (.cells #[.int .i64 0, .string ⟨#[]⟩, .int .i32 0, .int .i64 0] 26) = w0 at bR hb ⊢
    refine (run_let s _).mono ?_
    rintro e w1 ⟨rfl, b1⟩
    have bR := bR.keep b1 bR.lt
    have hb := hb.trans (b1.mono hb.size)
    clear b1
    go_wp2_with fail
    refine (run_inW s _).mono ?_
    rintro e w2 ⟨rfl, b2⟩
    have bR := bR.keep b2 bR.lt
    have hb := hb.trans (b2.mono hb.size)
    clear b2
    go_wp2_with fail
    refine (wordToken_any _ (by unfold maxLen; rw [ByteArray.size_extract]; omega) _).mono ?_
    rw [head_list, HF.out]
    rintro e w3 ⟨rfl, b3⟩
    have bR := bR.keep b3 bR.lt
    have hb := hb.trans (b3.mono hb.size)
    have f0 := bR.frozen
    have c0 := bR.cell (j := 0) rfl
    have c1 := bR.cell (j := 1) rfl
    have c2 := bR.cell (j := 2) rfl
    have c3 := bR.cell (j := 3) rfl
    clear E b3
    go_wp2
    exact ret_tok (g := w.heap.size) rfl rfl rfl ((((bR.set 0 _).set 1 _).set 2 _).set 3 _) rfl (GivesF.set (below_set (below_set (below_set (below_set hb (Nat.le_refl _) _) (Nat.le_refl _) _) (Nat.le_refl _) _) (Nat.le_refl _) _))
  by_cases h2 : 0 < runL isDig s.data.toList
  · have E := hide (f_dig h1 h2)
    obtain ⟨F, hF⟩ : ∃ F, numT (s.data.toList.take (runL isDig s.data.toList)) = F := ⟨_, rfl⟩
    have HF := hide hF
    rw [E.out, hF]
    clear hF
    go_enter Tryd.func29, Tryd.ntmps29
    go_wp2_with fail
    have bR := Blk.new w 26 [.int .i64 0, .string ⟨#[]⟩, .int .i32 0, .int .i64 0]
    have hb := below_new w (.cells #[.int .i64 0, .string ⟨#[]⟩, .int .i32 0, .int .i64 0] 26)
    generalize w.alloc (.cells #[.int .i64 0, .string ⟨#[]⟩, .int .i32 0, .int .i64 0] 26) = w0 at bR hb ⊢
    refine (run_let s _).mono ?_
    rintro e w1 ⟨rfl, b1⟩
    have bR := bR.keep b1 bR.lt
    have hb := hb.trans (b1.mono hb.size)
    clear b1
    go_wp2_with fail
    refine (run_dig s _).mono ?_
    rintro e w2 ⟨rfl, b2⟩
    have bR := bR.keep b2 bR.lt
    have hb := hb.trans (b2.mono hb.size)
    clear b2
    go_wp2_with fail
    refine (numberToken_any _ (by rw [ByteArray.size_extract]; omega) _ (he.keep hb)).mono ?_
    rw [head_list, HF.out]
    rintro e w3 ⟨rfl, b3⟩
    have bR := bR.keep b3 bR.lt
    have hb := hb.trans (b3.mono hb.size)
    have f0 := bR.frozen
    have c0 := bR.cell (j := 0) rfl
    have c1 := bR.cell (j := 1) rfl
    have c2 := bR.cell (j := 2) rfl
    have c3 := bR.cell (j := 3) rfl
    clear E b3 he
    go_wp2
    exact ret_tok (g := w.heap.size) rfl rfl rfl ((((bR.set 0 _).set 1 _).set 2 _).set 3 _) rfl (GivesF.set (below_set (below_set (below_set (below_set hb (Nat.le_refl _) _) (Nat.le_refl _) _) (Nat.le_refl _) _) (Nat.le_refl _) _))
  by_cases h3 : 0 < mkN s.data.toList
  · have E := hide (f_mark h1 h2 h3)
    go_enter Tryd.func29, Tryd.ntmps29
    go_wp2_with fail
    have bR := Blk.new w 26 [.int .i64 0, .string ⟨#[]⟩, .int .i32 0, .int .i64 0]
    have hb := below_new w (.cells #[.int .i64 0, .string ⟨#[]⟩, .int .i32 0, .int .i64 0] 26)
    generalize w.alloc (.cells #[.int .i64 0, .string ⟨#[]⟩, .int .i32 0, .int .i64 0] 26) = w0 at bR hb ⊢
    refine (run_let s _).mono ?_
    rintro e w1 ⟨rfl, b1⟩
    have bR := bR.keep b1 bR.lt
    have hb := hb.trans (b1.mono hb.size)
    clear b1
    go_wp2_with fail
    refine (run_dig s _).mono ?_
    rintro e w2 ⟨rfl, b2⟩
    have bR := bR.keep b2 bR.lt
    have hb := hb.trans (b2.mono hb.size)
    clear b2
    go_wp2_with fail
    refine (markSize_any s (by unfold maxLen; omega) _).mono ?_
    rintro e w3 ⟨rfl, rfl⟩
    have f0 := bR.frozen
    have c0 := bR.cell (j := 0) rfl
    have c1 := bR.cell (j := 1) rfl
    have c2 := bR.cell (j := 2) rfl
    have c3 := bR.cell (j := 3) rfl
    clear he
    go_wp2
    exact ret_tok (g := w.heap.size) rfl rfl rfl ((((bR.set 0 _).set 1 _).set 2 _).set 3 _) rfl (GivesF.of (by rw [E.out, head_list]) (below_set (below_set (below_set (below_set hb (Nat.le_refl _) _) (Nat.le_refl _) _) (Nat.le_refl _) _) (Nat.le_refl _) _))
  · have E := hide (f_none h1 h2 h3)
    go_enter Tryd.func29, Tryd.ntmps29
    go_wp2_with fail
    have bR := Blk.new w 26 [.int .i64 0, .string ⟨#[]⟩, .int .i32 0, .int .i64 0]
    have hb := below_new w (.cells #[.int .i64 0, .string ⟨#[]⟩, .int .i32 0, .int .i64 0] 26)
    generalize w.alloc (.cells #[.int .i64 0, .string ⟨#[]⟩, .int .i32 0, .int .i64 0] 26) = w0 at bR hb ⊢
    refine (run_let s _).mono ?_
    rintro e w1 ⟨rfl, b1⟩
    have bR := bR.keep b1 bR.lt
    have hb := hb.trans (b1.mono hb.size)
    clear b1
    go_wp2_with fail
    refine (run_dig s _).mono ?_
    rintro e w2 ⟨rfl, b2⟩
    have bR := bR.keep b2 bR.lt
    have hb := hb.trans (b2.mono hb.size)
    clear b2
    go_wp2_with fail
    refine (markSize_any s (by unfold maxLen; omega) _).mono ?_
    rintro e w3 ⟨rfl, rfl⟩
    have f0 := bR.frozen
    have c0 := bR.cell (j := 0) rfl
    have c1 := bR.cell (j := 1) rfl
    have c2 := bR.cell (j := 2) rfl
    have c3 := bR.cell (j := 3) rfl
    clear he
    go_wp2
    exact ret_tok (g := w.heap.size) rfl rfl rfl ((((bR.set 0 _).set 1 _).set 2 _).set 3 _) rfl (GivesF.of (tx := ⟨#[]⟩) E.out (below_set (below_set (below_set (below_set hb (Nat.le_refl _) _) (Nat.le_refl _) _) (Nat.le_refl _) _) (Nat.le_refl _) _))
end Go.Proofs.YtbcgofmhplgfbaaDoor
