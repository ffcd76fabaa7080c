/-
  Contracts of package vm: fits, begin.
-/
import Derived.Test.YtmjelcoljmefeaaVPkg5
import Derived.Deep.DeepCutAuto
import Derived.Laws.CopyOwn
namespace Go.Proofs.Ytmjelcoljmefeaa
open Go.RowKit
set_option maxRecDepth 20000
set_option maxHeartbeats 2000000

theorem Row.src' {w : World} {B n c : Nat} {A : Option Addr} {cs : List Value} (h : Row w B A n c cs) (hp : 0 < cs.length) : ∃ ad, A = some ad ∧ ∀ j v, cs[j]? = some v → w.cell? (ad.add j) = some v := by
  obtain ⟨b, o, rfl, _, hc⟩ := h.cells (by have := h.len; omega)
  exact ⟨_, rfl, fun j v hv => by rw [Addr.add_lit]; exact hc j v hv⟩
def fitB (f : Fr) (no nf ni : Nat) : Bool := decide (okF f ∧ (no : Int) = f.o ∧ (nf : Int) = f.n ∧ (ni : Int) = f.i)
theorem fits_b (s1 s2 s3 s4 s5 : Int) (A1 A2 A3 : Option Addr) (no nf ni c1 c2 c3 : Nat) (b : Bool) (w : World) (H : Hid (fitB ⟨s1, s2, s3, s4, s5⟩ no nf ni = b)) :
    Calls Try.prog 20 #[.agg #[.int .i64 s1, .int .i64 s2, .int .i64 s3, .int .i64 s4, .int .i64 s5], .slice A1 no c1, .slice A2 nf c2, .slice A3 ni c3] w fun e w' => e = .returned (.bool b) ∧ Below w.heap.size w w' := by
  obtain ⟨er, he⟩ : ∃ er, frmE ⟨s1, s2, s3, s4, s5⟩ = er := ⟨_, rfl⟩
  have HF := hide he
  have cs : (er ≠ 0 ∧ b = false) ∨ (er = 0 ∧ (((no : Int) ≠ s2 ∧ b = false) ∨ ((no : Int) = s2 ∧ (((nf : Int) ≠ s3 ∧ b = false) ∨ ((nf : Int) = s3 ∧ (((ni : Int) ≠ s4 ∧ b = false) ∨ ((ni : Int) = s4 ∧ b = true))))))) := by
    have := H.out
    unfold fitB at this
    by_cases hf : okF ⟨s1, s2, s3, s4, s5⟩
    · rw [frm_zero hf] at he
      by_cases h1 : (no : Int) = s2 <;> by_cases h2 : (nf : Int) = s3 <;> by_cases h3 : (ni : Int) = s4 <;> simp [hf, h1, h2, h3] at this <;> simp [he.symm, h1, h2, h3, this]
    · rw [frm_one hf] at he
      simp [hf] at this
      left
      exact ⟨by omega, this⟩
  clear H he
  rcases cs with ⟨h, rfl⟩ | ⟨h, ⟨h1, rfl⟩ | ⟨h1, ⟨h2, rfl⟩ | ⟨h2, ⟨h3, rfl⟩ | ⟨h3, rfl⟩⟩⟩⟩
  · have e0 : (er == 0) = false := by simpa using h
    clear h
    go_enter Try.func20, Try.ntmps20
    go_wp2_with fail
    refine (Frame_any ⟨s1, s2, s3, s4, s5⟩ _).mono ?_
    rw [HF.out]
    rintro e w2 ⟨rfl, hb2⟩
    go_wp2
    go_ret
    exact ⟨rfl, ((Below.refl _ w).alloc (Nat.le_refl _) _).trans (hb2.mono (by simp))⟩
  · have e0 : (er == 0) = true := by simpa using h
    have e1 : ((no : Int) == s2) = false := by rw [beq_eq_false_iff_ne]; exact h1
    clear h1
    clear h
    go_enter Try.func20, Try.ntmps20
    go_wp2_with fail
    refine (Frame_any ⟨s1, _, _, _, s5⟩ _).mono ?_
    rw [HF.out]
    rintro e w2 ⟨rfl, hb2⟩
    have k1 := (hb2.cell (p := ⟨w.heap.size, 1, none⟩) (by simp)).trans (show _ = some (Value.int .i64 s2) by simp)
    have k2 := (hb2.cell (p := ⟨w.heap.size, 2, none⟩) (by simp)).trans (show _ = some (Value.int .i64 s3) by simp)
    have k3 := (hb2.cell (p := ⟨w.heap.size, 3, none⟩) (by simp)).trans (show _ = some (Value.int .i64 s4) by simp)
    go_wp2
    go_ret
    exact ⟨rfl, ((Below.refl _ w).alloc (Nat.le_refl _) _).trans (hb2.mono (by simp))⟩
  · have e0 : (er == 0) = true := by simpa using h
    subst h1
    have e2 : ((nf : Int) == s3) = false := by rw [beq_eq_false_iff_ne]; exact h2
    clear h2
    clear h
    go_enter Try.func20, Try.ntmps20
    go_wp2_with fail
    refine (Frame_any ⟨s1, _, _, _, s5⟩ _).mono ?_
    rw [HF.out]
    rintro e w2 ⟨rfl, hb2⟩
    have k1 := (hb2.cell (p := ⟨w.heap.size, 1, none⟩) (by simp)).trans (show _ = some (Value.int .i64 (no : Int)) by simp)
    have k2 := (hb2.cell (p := ⟨w.heap.size, 2, none⟩) (by simp)).trans (show _ = some (Value.int .i64 s3) by simp)
    have k3 := (hb2.cell (p := ⟨w.heap.size, 3, none⟩) (by simp)).trans (show _ = some (Value.int .i64 s4) by simp)
    go_wp2
    go_ret
    exact ⟨rfl, ((Below.refl _ w).alloc (Nat.le_refl _) _).trans (hb2.mono (by simp))⟩
  · have e0 : (er == 0) = true := by simpa using h
    subst h1
    subst h2
    have e3 : ((ni : Int) == s4) = false := by rw [beq_eq_false_iff_ne]; exact h3
    clear h3
    clear h
    go_enter Try.func20, Try.ntmps20
    go_wp2_with fail
    refine (Frame_any ⟨s1, _, _, _, s5⟩ _).mono ?_
    rw [HF.out]
    rintro e w2 ⟨rfl, hb2⟩
    have k1 := (hb2.cell (p := ⟨w.heap.size, 1, none⟩) (by simp)).trans (show _ = some (Value.int .i64 (no : Int)) by simp)
    have k2 := (hb2.cell (p := ⟨w.heap.size, 2, none⟩) (by simp)).trans (show _ = some (Value.int .i64 (nf : Int)) by simp)
    have k3 := (hb2.cell (p := ⟨w.heap.size, 3, none⟩) (by simp)).trans (show _ = some (Value.int .i64 s4) by simp)
    go_wp2
    go_ret
    exact ⟨rfl, ((Below.refl _ w).alloc (Nat.le_refl _) _).trans (hb2.mono (by simp))⟩
  · have e0 : (er == 0) = true := by simpa using h
    subst h1
    subst h2
    subst h3
    clear h
    go_enter Try.func20, Try.ntmps20
    go_wp2_with fail
    refine (Frame_any ⟨s1, _, _, _, s5⟩ _).mono ?_
    rw [HF.out]
    rintro e w2 ⟨rfl, hb2⟩
    have k1 := (hb2.cell (p := ⟨w.heap.size, 1, none⟩) (by simp)).trans (show _ = some (Value.int .i64 (no : Int)) by simp)
    have k2 := (hb2.cell (p := ⟨w.heap.size, 2, none⟩) (by simp)).trans (show _ = some (Value.int .i64 (nf : Int)) by simp)
    have k3 := (hb2.cell (p := ⟨w.heap.size, 3, none⟩) (by simp)).trans (show _ = some (Value.int .i64 (ni : Int)) by simp)
    go_wp2
    go_ret
    exact ⟨rfl, ((Below.refl _ w).alloc (Nat.le_refl _) _).trans (hb2.mono (by simp))⟩

theorem makeN (n : Nat) (h : n ≤ 1000) (W : World) :
    (Instr.makeSlice 25 (.int .i64 (n : Int)) (.int .i64 (n : Int))).run Try.prog W = .ok (.slice (some ⟨W.heap.size, 0, none⟩) n n) (W.alloc (.cells (c32 (List.replicate n 0)).toArray 21)) := by
  obtain ⟨i, hi, h1⟩ := Option.map_eq_some_iff.1 infoN
  simp at h1
  rw [run_make W 25 21 i _ Try.underlying25 hi h1.1 .i64 .i64 (n : Int) (n : Int) (by omega) (by omega) (by rw [h1.2.2]; omega) (by omega), h1.2.1]
  congr 3
  apply Array.toList_inj.1
  rw [Int.toNat_natCast, Nat.mul_one]
  simp [c32, Value.cells, toList_madeCells_one]
section
variable (w : World) (a b c d e : Obj) (t : TypeId) (cs : List Value)
theorem vh2 : Blk (((((w.alloc a).alloc (.cells cs.toArray t (0, 0))).alloc c).alloc d).alloc e).drew (w.heap.size + 1) t cs := ((((Blk.at (w.alloc a) t cs (by simp)).alloc c).alloc d).alloc e).drew
theorem vh3 : Blk (((((w.alloc a).alloc b).alloc (.cells cs.toArray t (0, 0))).alloc d).alloc e).drew (w.heap.size + 1 + 1) t cs := (((Blk.at ((w.alloc a).alloc b) t cs (by simp)).alloc d).alloc e).drew
theorem vh4 : Blk (((((w.alloc a).alloc b).alloc c).alloc (.cells cs.toArray t (0, 0))).alloc e).drew (w.heap.size + 1 + 1 + 1) t cs := ((Blk.at (((w.alloc a).alloc b).alloc c) t cs (by simp)).alloc e).drew
theorem vh5 : Blk (((((w.alloc a).alloc b).alloc c).alloc d).alloc (.cells cs.toArray t (0, 0))).drew (w.heap.size + 1 + 1 + 1 + 1) t cs := (Blk.at ((((w.alloc a).alloc b).alloc c).alloc d) t cs (by simp)).drew
theorem vh_below : Below w.heap.size w (((((w.alloc a).alloc b).alloc c).alloc d).alloc e).drew := ((((((Below.refl _ w).alloc (Nat.le_refl _) _).alloc (by simp) _).alloc (by simp; omega) _).alloc (by simp; omega) _).alloc (by simp; omega) _).drew
end
/-- A machine that stands at its beginning, its cells not yet copied. -/
def Raw (w : World) (na nb nc : Nat) (vc vo vi : Value) (s11 : Value) (wx : World) : Prop :=
  ∃ g a b c : Nat, s11 = .pointer (some ⟨g, 0, none⟩) ∧ Blk wx g 62 [vc, vo, vi, .slice (some ⟨a, 0, none⟩) na na, .slice (some ⟨b, 0, none⟩) nb nb, .slice (some ⟨c, 0, none⟩) nc nc, .slice none 0 0, .int .i64 0, .int .i64 0] ∧
    Blk wx a 21 (c32 (List.replicate na 0)) ∧ Blk wx b 21 (c32 (List.replicate nb 0)) ∧ Blk wx c 21 (c32 (List.replicate nc 0)) ∧
    ((g ≠ a ∧ g ≠ b ∧ g ≠ c) ∧ (a ≠ b ∧ a ≠ c ∧ b ≠ c)) ∧ (w.heap.size ≤ g ∧ w.heap.size ≤ a ∧ w.heap.size ≤ b ∧ w.heap.size ≤ c) ∧ Below w.heap.size w wx
def VBegun (f : Fr) (l : List (Int × Int)) (old first ins : List Int) (w : World) (e : Ending) (w' : World) : Prop :=
  ∃ P : MP, e = .returned (.pointer (some ⟨P.g, 0, none⟩)) ∧ Fits f P ∧ Mac w' w.heap.size P l old ins none 0 0 (vini f first) 0 ∧ Below w.heap.size w w'
theorem wpList_copy_keep {P : Program} {w : World} {ops : Array Oper} {rest : List Oper} {o : Oper} {a : Act} {Q : Exit → Act → World → Prop} (hgd : o.guard = none) (d s : Operand) (dT sT : TypeId)
    (ho : o.op = .call { callee := .builtin .copy, args := #[d, s], argTypes := #[dT, sT] }) (elem : TypeId) (hu : P.underlying dT = some (.slice elem)) (hsz : (P.info? elem).map (·.size) = some 1)
    (dp sp : Option Addr) (dLen dCap sLen sCap : Nat) (hd : a.eval d = .slice dp dLen dCap) (hs : a.eval s = .slice sp sLen sCap)
    (g off : Nat) (cur : List Value) (t : TypeId) (hg : w.heap[g]? = some (.cells cur.toArray t (0, 0))) (cs : List Value) (hn : cs.length = Nat.min sLen dLen)
    (hpos : 0 < cs.length → dp = some ⟨g, off, none⟩ ∧ ∃ ad, sp = some ad ∧ ∀ j v, cs[j]? = some v → w.cell? (ad.add j) = some v)
    (hfit : off + cs.length ≤ cur.length) (h1 : ∀ v ∈ cs, v.oneCell' = true)
    (h : ∀ w', Hid (Blk w' g t (splice cur off cs)) → Keeps [g] w w' → wpList P ops Q rest (a.put o.dst (goInt cs.length)) w') :
    wpList P ops Q (o :: rest) a w := by
  by_cases h0 : cs.length = 0
  · obtain rfl : cs = [] := List.eq_nil_of_length_eq_zero h0
    refine wpList_copy_nothing hgd d s dT sT ho elem hu hsz dp sp dLen dCap sLen sCap hd hs (by simpa using hn.symm) ?_
    exact h w (show w.heap[g]? = _ by simpa [splice] using hg) (Keeps.refl _ _)
  · obtain ⟨rfl, ad, rfl, hsrc⟩ := hpos (by omega)
    refine wpList_copy_own hgd d s dT sT ho elem hu hsz g off dLen dCap ad sLen sCap hd hs cur.toArray t hg cs hn hsrc (by simpa using hfit) h1 ?_
    exact h _ (show _ = _ by simpa [splice] using setRow_heap w g _ _ t _ hg) ⟨rfl, rfl, rfl, by simp [World.setRow], fun k _ hk => setRow_other w g k _ (fun e => hk (by simp [e]))⟩
theorem splice_all (cs ds : List Value) (h : cs.length = ds.length) : splice cs 0 ds = ds := by
  simp [splice, ← h]
theorem vbegin_any (na no nb ni nc B : Nat) (A oA fA iA : Option Addr) (n cc oc fc ic : Nat) (l : List (Int × Int)) (old first ins : List Int) (w : World) (hB : B ≤ w.heap.size)
    (hl : RowI w B A n cc l) (ho : Row w B oA no oc (c32 old)) (hf : Row w B fA nb fc (c32 first)) (hi : Row w B iA ni ic (c32 ins)) (ok : okF ⟨na, no, nb, ni, nc⟩) (hn : n ≤ 600) :
    Calls Try.prog 22 #[.slice A n cc, .agg #[.int .i64 (na : Int), .int .i64 (no : Int), .int .i64 (nb : Int), .int .i64 (ni : Int), .int .i64 (nc : Int)], .slice oA no oc, .slice fA nb fc, .slice iA ni ic] w
      (VBegun ⟨na, no, nb, ni, nc⟩ l old first ins w) := by
  obtain ⟨k1, k2, k3, k4, k5⟩ := id ok
  simp only at k1 k2 k3 k4 k5
  have m1 := makeN na (by omega)
  have m2 := makeN nb (by omega)
  have m3 := makeN nc (by omega)
  have HO := hide ok
  have HR := hide (And.intro (hl.more hB) (And.intro (ho.more hB) (And.intro (hf.more hB) (hi.more hB))))
  obtain ⟨za, hza⟩ : ∃ z, c32 (List.replicate na 0) = z := ⟨_, rfl⟩
  obtain ⟨zb, hzb⟩ : ∃ z, c32 (List.replicate nb 0) = z := ⟨_, rfl⟩
  obtain ⟨zc, hzc⟩ : ∃ z, c32 (List.replicate nc 0) = z := ⟨_, rfl⟩
  rw [hza] at m1
  rw [hzb] at m2
  rw [hzc] at m3
  have HZ := hide (And.intro hza (And.intro hzb hzc))
  clear hza hzb hzc hl ho hf hi ok k1 k2 k3 k4 k5
  go_enter Try.func22, Try.ntmps22
  go_upto_region 1 with (fail)
  go_cut [11] (fun s11 wx => Raw w na nb nc (.slice A n cc) (.slice oA no oc) (.slice iA ni ic) s11 wx)
  case first =>
    go_region
    all_goals
      go_wp2_with fail
      go_meet
      refine ⟨_, _, _, _, rfl, vh5 _ _ _ _ _ _ [_, _, _, _, _, _, _, _, _], ?_, ?_, ?_, ⟨⟨by omega, by omega, by omega⟩, by omega, by omega, by omega⟩, ⟨by omega, by omega, by omega, by omega⟩, vh_below _ _ _ _ _ _⟩
      · rw [HZ.out.1]; first | exact vh2 _ _ _ _ _ _ _ | exact vh3 _ _ _ _ _ _ _ | exact vh4 _ _ _ _ _ _ _
      · rw [HZ.out.2.1]; first | exact vh2 _ _ _ _ _ _ _ | exact vh3 _ _ _ _ _ _ _ | exact vh4 _ _ _ _ _ _ _
      · rw [HZ.out.2.2]; first | exact vh2 _ _ _ _ _ _ _ | exact vh3 _ _ _ _ _ _ _ | exact vh4 _ _ _ _ _ _ _
  case rest =>
    clear m1 m2 m3
    obtain ⟨g, a, b, c, rfl, bg, ba, bb, bc, hne, hlo, hbl⟩ := hcut
    have c4 := bg.cell (j := 4) rfl
    have HG := hide bg
    have HA := hide (And.intro ba (And.intro bc (And.intro hne (And.intro hlo hbl))))
    have hflen := HR.out.2.2.1.len
    have hfl : first.length = nb := by rwa [c32_len] at hflen
    have HF := hide hfl
    clear bg ba bc hne hbl hfl hflen
    go_wp2_with (refine wpList_copy_keep rfl (.tmp 29) (.tmp 30) 25 25 rfl 21 Try.underlying25 sizeN _ _ _ _ _ _ rfl rfl b 0 (c32 (List.replicate nb 0)) 21 bb (c32 first) (by rw [c32_len, HF.out]; exact (Nat.min_self _).symm) (fun hp => ⟨rfl, (HR.out.2.2.1.keep HA.out.2.2.2.2 (Nat.le_refl _)).src' hp⟩) (by rw [c32_len, c32_len, HF.out]; simp) (c32_one _) ?_; intro w6 HC hk6)
    rw [splice_all _ _ (by rw [c32_len, c32_len, HF.out]; simp)] at HC
    have HK := hide hk6
    obtain ⟨ba, bc, hne, _, hbl⟩ := HA.out
    obtain ⟨r1, r2, r3, r4⟩ := HR.out
    have hb6 : Below w.heap.size w w6 := Keeps.below hbl hk6 (by simpa using hlo.2.2.1) (Nat.le_refl _)
    have hmac : Mac w6 w.heap.size ⟨g, a, b, c, na, nb, nc, A, n, cc, oA, no, oc, iA, ni, ic⟩ l old ins none 0 0 (vini ⟨na, no, nb, ni, nc⟩ first) 0 :=
      ⟨hk6.blk HG.out (by simp; exact hne.1.2.1), r1.keep hb6 (Nat.le_refl _), r2.keep hb6 (Nat.le_refl _), r4.keep hb6 (Nat.le_refl _), hk6.blk ba (by simp; exact hne.2.1), HC.out, hk6.blk bc (by simp; exact fun e => hne.2.2.2 e.symm),
        by simp [vini], HF.out, by simp [vini], rfl, World.ownsRow_nil _ _ _ _, hne, (fun k hk => by simp [Value.ownBlock] at hk), hlo⟩
    have HM := hide (And.intro hmac hb6)
    clear hmac hb6 ba bc hne hbl r1 r2 r3 r4 hk6 HC
    go_ret
    exact ⟨⟨g, a, b, c, na, nb, nc, A, n, cc, oA, no, oc, iA, ni, ic⟩, rfl, ⟨rfl, rfl, rfl, rfl, rfl, HO.out, hn⟩, HM.out.1, HM.out.2⟩
end Go.Proofs.Ytmjelcoljmefeaa
