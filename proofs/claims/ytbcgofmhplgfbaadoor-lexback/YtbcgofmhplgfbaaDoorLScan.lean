/-
  Contract of package lex: Scan.
-/
import Derived.Test.YtbcgofmhplgfbaaDoorLPkg4
import Derived.Deep.AppendLies
import Derived.Deep.Cut
namespace Go.Proofs.YtbcgofmhplgfbaaDoor
open Go.RowKit
set_option maxHeartbeats 2000000

/-- Tokens, a fault and a place. -/
def GivesS (w : World) (q : Toks) (e : Ending) (w' : World) : Prop :=
  ∃ A n c, e = .returned (.tuple #[.slice A n c, .int .i64 q.2.1, .int .i64 (q.2.2 : Nat)]) ∧ w'.ownsRow w.heap.size 26 4 (.slice A n c) n (csT q.1) ∧ Below w.heap.size w w'
theorem GivesS.of {w w' : World} {q : Toks} {l : List Tok} {er : Int} {to : Nat} {A : Option Addr} {n c : Nat} (h : q = (l, er, to)) (ho : w'.ownsRow w.heap.size 26 4 (.slice A n c) n (csT l)) (hb : Below w.heap.size w w') :
    GivesS w q (.returned (.tuple #[.slice A n c, .int .i64 er, .int .i64 (to : Nat)])) w' := by
  subst h; exact ⟨A, n, c, rfl, ho, hb⟩
theorem ownT_nil (w : World) (base : Nat) : w.ownsRow base 26 4 (.slice none 0 0) 0 (csT []) := World.ownsRow_nil _ _ _ _
theorem Clone_any (s : ByteArray) (hs : s.size ≤ 100000) (w : World) : Calls Tryd.prog 30 #[.string s] w fun e w' => e = .returned (.string s) ∧ Below w.heap.size w w' := by
  go_enter Tryd.func30, Tryd.ntmps30
  go_wp2_with fail
  refine (Tryd.stringslite_Clone s w (by omega)).mono ?_
  rintro e w1 ⟨rfl, b1⟩
  go_wp2
  go_ret
  exact ⟨rfl, b1⟩
/-- Where the scan stands: these tokens are had, the rest is ahead. -/
def Stand (l : List UInt8) (acc : List Tok) (j : Nat) : Prop := ∃ f, l.length - j < f ∧ comb acc (scanR f (l.drop j) j) = scanL l
theorem stand_start {l : List UInt8} (h : ¬ 4096 < l.length) : Stand l [] (skipN false l) := by
  refine ⟨l.length + 1, by omega, ?_⟩
  rw [comb_nil _ (fun e => scanR_err_nil _ _ _ e)]
  unfold scanL; rw [if_neg h]
theorem stand_end {l : List UInt8} {acc : List Tok} {j : Nat} (h : Stand l acc j) (hj : l.length ≤ j) : scanL l = (acc, 0, 0) := by
  obtain ⟨f, _, e⟩ := h
  rw [List.drop_of_length_le hj, scanR_nil] at e
  rw [← e]; simp [comb]
theorem drop_ne {l : List UInt8} {j : Nat} (hj : j < l.length) : l.drop j ≠ [] := by
  intro e
  have := congrArg List.length e
  rw [List.length_drop] at this; simp at this; omega
theorem stand_bad {l : List UInt8} {acc : List Tok} {j : Nat} (h : Stand l acc j) (hj : j < l.length) (hb : (firstT (l.drop j)).1 ≠ 0) : scanL l = ([], (firstT (l.drop j)).1, j) := by
  obtain ⟨f, hf, e⟩ := h
  obtain ⟨f, rfl⟩ : ∃ g, f = g + 1 := ⟨f - 1, by omega⟩
  rw [scanR_bad (drop_ne hj) hb] at e
  rw [← e, comb_bad _ hb]
theorem stand_tok {l : List UInt8} {acc : List Tok} {j : Nat} (h : Stand l acc j) (hj : j < l.length) {kd nv : Int} {tx : List UInt8} (hb : firstT (l.drop j) = (0, kd, tx, nv)) :
    Stand l (acc ++ [⟨kd, tx, nv, j⟩]) (j + tx.length + skipN false (l.drop (j + tx.length))) ∧ 0 < tx.length ∧ j + tx.length ≤ l.length ∧ j + tx.length + skipN false (l.drop (j + tx.length)) ≤ l.length := by
  obtain ⟨f, hf, e⟩ := h
  obtain ⟨f, rfl⟩ : ∃ g, f = g + 1 := ⟨f - 1, by omega⟩
  have h0 : (firstT (l.drop j)).1 = 0 := by rw [hb]
  have hl := first_len (drop_ne hj) h0
  rw [hb, List.length_drop] at hl
  have hsk := skipN_le (l.drop (j + tx.length)) false
  rw [List.length_drop] at hsk
  have hl1 := hl.1; have hl2 := hl.2.1
  simp only at hl1 hl2
  refine ⟨⟨f, by omega, ?_⟩, hl1, by omega, by omega⟩
  rw [scanR_tok (drop_ne hj) h0, comb_comb] at e
  rw [← e]
  unfold aft tokA
  rw [hb]
  simp only [List.drop_drop]
theorem scan_big {s : ByteArray} (h : 4096 < s.size) : scanL s.data.toList = ([], 3, 0) := scanL_big (by rw [size_list]; exact h)
theorem own_drewT {w : World} {base : Nat} {e : TypeId} {v : Value} {n : Nat} {xs : List Value} (h : w.ownsRow base e 4 v n xs) : w.drew.ownsRow base e 4 v n xs := h
theorem cells_far {w w' : World} {v : Value} {g : Nat} {t : TypeId} {a b c d : Value} (h : w.grownBy w' v.ownBlock) (hb : Blk w g t [a, b, c, d]) (hne : v.ownBlock ≠ some g) : w'.cell? ⟨g, 0, none⟩ = some a ∧ w'.cell? ⟨g, 1, none⟩ = some b ∧ w'.cell? ⟨g, 2, none⟩ = some c :=
  ⟨by rw [h.cell_far _ hb.lt (Ne.symm hne)]; exact hb.cell rfl, by rw [h.cell_far _ hb.lt (Ne.symm hne)]; exact hb.cell rfl, by rw [h.cell_far _ hb.lt (Ne.symm hne)]; exact hb.cell rfl⟩
set_option maxRecDepth 20000 in
theorem Scan_any (s : ByteArray) (hs : s.size ≤ maxLen) (w : World) (he : Env w) : Calls Tryd.prog 17 #[.string s] w (GivesS w (scanL s.data.toList)) := by
  unfold maxLen at hs
  obtain ⟨i0, hi0, hz0, hz1, hz2⟩ := info_parts infoT
  have hsz := size_list s
  by_cases hbig : 4096 < s.size
  · have E := hide (scan_big hbig)
    clear hsz he
    go_enter Tryd.func17, Tryd.ntmps17
    go_wp2
    go_ret3
    exact GivesS.of E.out (ownT_nil _ _) (Below.refl _ _)
  have hst := hide (stand_start (l := s.data.toList) (by omega))
  have hsk := skipN_le s.data.toList false
  rw [hsz] at hsk
  have HSZ := hide hsz
  clear hsz
  go_enter Tryd.func17, Tryd.ntmps17
  go_wp2_with fail
  refine (skipped_any s (by unfold maxLen; omega) w).mono ?_
  rintro e w1 ⟨rfl, b1⟩
  go_wp2_with fail
  go_loopw [5, 6] (fun o i wr => ∃ (j n c : Nat) (A : Option Addr) (acc : List Tok), j ≤ s.size ∧ i = .int .i64 (j : Int) ∧ o = .slice A n c ∧ n ≤ j ∧ wr.ownsRow w.heap.size 26 4 (.slice A n c) n (csT acc) ∧ Below w.heap.size w wr ∧ Hid (Stand s.data.toList acc j)) (fun _ i _ => s.size - (intOf i).toNat)
  case atStart => exact ⟨_, 0, 0, none, [], hsk, rfl, rfl, Nat.zero_le _, ownT_nil _ _, b1, hst⟩
  case round =>
    obtain ⟨j, n, c, A, acc, hj, rfl, rfl, hn, ho, hb, HST⟩ := hrel
    by_cases hlt : j < s.size
    · obtain ⟨er, kd, tx, nv, hF⟩ : ∃ er kd tx nv, firstT (s.data.toList.drop j) = (er, kd, tx, nv) := ⟨_, _, _, _, rfl⟩
      by_cases h0 : er = 0
      · subst h0
        have ST := stand_tok HST.out (by rw [HSZ.out]; exact hlt) hF
        rw [HSZ.out] at ST
        obtain ⟨S1, S2, S3, S4⟩ := (⟨hide ST.1, ST.2⟩ : Hid _ ∧ _)
        clear ST
        have HF := hide hF
        clear hF
        go_wp2_with fail
        refine (first_any _ (by rw [ByteArray.size_extract]; omega) wr (he.keep hb)).mono ?_
        rw [tail_list, HF.out]
        rintro e w2 ⟨rfl, b2⟩
        go_wp2_with fail
        have hbr := hb.size
        have hb2 := hb.trans ((b2.trans ((below_new w2 (.cells #[.int .i64 kd, .string (str tx), .int .i32 nv, .int .i64 0] 26)).mono b2.size)).mono hbr)
        have ho2 := ownT_keep (ownT_keep ho b2) (below_new w2 (.cells #[.int .i64 kd, .string (str tx), .int .i32 nv, .int .i64 0] 26))
        have bT := Blk.new w2 26 [.int .i64 kd, .string (str tx), .int .i32 nv, .int .i64 0]
        have hne : (Value.slice A n c).ownBlock ≠ some w2.heap.size := by intro e; have := ((ownT_keep ho b2).lt _ e).2; omega
        generalize w2.alloc (.cells #[.int .i64 kd, .string (str tx), .int .i32 nv, .int .i64 0] 26) = w3 at hb2 ho2 bT ⊢
        generalize w2.heap.size = g3 at bT hne ⊢
        clear b2 ho hb he
        go_region_held3 (fun W : World => W.cell? ⟨g3, 0, none⟩ = some (.int .i64 kd) ∧ W.cell? ⟨g3, 1, none⟩ = some (.string (str tx)) ∧ W.cell? ⟨g3, 2, none⟩ = some (.int .i32 nv)) (first | exact ⟨bT6.cell (j := 0) rfl, bT6.cell (j := 1) rfl, bT6.cell (j := 2) rfl⟩ | exact ⟨bT5.cell (j := 0) rfl, bT5.cell (j := 1) rfl, bT5.cell (j := 2) rfl⟩ | exact ⟨bT.cell (j := 0) rfl, bT.cell (j := 1) rfl, bT.cell (j := 2) rfl⟩ | exact cells_far hg7 bT6 hne) (first
          | (go_at_call 30; refine (Clone_any _ (by rw [str_size]; omega) _).mono ?_; rintro e w5 ⟨rfl, b5⟩
             have bT5 := bT.drew.keep b5 bT.lt
             have bT6 := bT5.alloc (.cells #[.int .i64 kd, .string (str tx), .int .i32 nv, .int .i64 (j : Int)] 26)
             have hb5 := hb2.drew.trans (b5.mono hb2.size)
             have ho5 := ownT_keep (own_drewT ho2) b5
             have hb6 := hb5.alloc hb5.size (.cells #[.int .i64 kd, .string (str tx), .int .i32 nv, .int .i64 (j : Int)] 26)
             have ho6 := ownT_keep ho5 (below_new w5 (.cells #[.int .i64 kd, .string (str tx), .int .i32 nv, .int .i64 (j : Int)] 26)))
          | (refine step_append_lies _ (by rfl) _ _ _ (by rfl) w.heap.size 26 i0 _ 4 40 Tryd.underlying24 hi0 hz0 hz1 hz2 rfl (by omega) (.slice A n c) n (csT acc) (by rfl) ho6 ⟨w5.heap.size, 0, none⟩ 1 1 (cell4 ⟨kd, tx, nv, j⟩) (by rfl) (by rfl) (World.news_of_block (cs := #[.int .i64 kd, .string (str tx), .int .i32 nv, .int .i64 (j : Int)]) (t := 26) (fr := (0, 0)) (heap_alloc_new w5 _)) (by simp [cell4, Value.oneCell']) (by omega) (by unfold maxLen; omega) (by omega) hb6.size _ rfl ?_
             intro g7 c7 w7 ho7 hg7 hat7 hlt7))
        have hb7 := hb6.grown hg7 hb6.size fun k hk => (ho6.lt k hk).1
        have c7t := (cells_far hg7 bT6 hne).2.1
        have ho8 : w7.ownsRow w.heap.size 26 4 (.slice (some ⟨g7, 0, none⟩) (n + 1) c7) (n + 1) (csT (acc ++ [⟨kd, tx, nv, j⟩])) := by
          rw [csT_app, show csT [(⟨kd, tx, nv, j⟩ : Tok)] = cell4 ⟨kd, tx, nv, j⟩ from List.append_nil _]; exact ho7
        have hsl := str_size tx
        have hs1 : (str tx).size ≤ tx.length := by omega
        have hs2 : tx.length ≤ (str tx).size := by omega
        have hs3 : j + (str tx).size ≤ s.size := by omega
        have HSL := hide hsl
        clear ho7 hg7 hat7 bT bT5 bT6 hb2 hb5 hb6 ho2 ho5 ho6 b5 hsl
        go_wp2_with fail
        refine (skipped_any _ (by unfold maxLen; rw [ByteArray.size_extract]; omega) w7).mono ?_
        rw [tail_list, HSL.out]
        rintro e w8 ⟨rfl, b8⟩
        go_wp2_with fail
        have hb8 := hb7.trans (b8.mono hb7.size)
        have ho9 := ownT_keep ho8 b8
        clear hb7 ho8 b8
        go_roundw
        case rel => exact ⟨_, n + 1, c7, _, _, S4, by go_num, by go_num, by omega, ho9, hb8, S1⟩
        case measure => simp [intOf]; omega
      · have HF := hide hF
        have HB := hide (stand_bad HST.out (by rw [HSZ.out]; exact hlt) (by rw [hF]; exact h0))
        have h0' : (er != 0) = true := by simpa using h0
        clear hF h0
        go_wp2_with fail
        refine (first_any _ (by rw [ByteArray.size_extract]; omega) wr (he.keep hb)).mono ?_
        rw [tail_list, HF.out]
        rintro e w2 ⟨rfl, b2⟩
        have hb2 := hb.trans ((b2.trans ((below_new w2 (.cells #[.int .i64 kd, .string (str tx), .int .i32 nv, .int .i64 0] 26)).mono b2.size)).mono hb.size)
        clear he
        go_wp2
        go_ret3
        refine GivesS.of (l := []) (HB.out.trans ?_) (ownT_nil _ _) hb2
        rw [HF.out]
    · have HE := hide (stand_end HST.out (by rw [HSZ.out]; omega))
      go_wp2
      go_ret3
      exact GivesS.of (to := 0) HE.out ho hb
end Go.Proofs.YtbcgofmhplgfbaaDoor
