/-
  Contract of image.decoded.
-/
import Derived.Test.YtdikiabjkmigdaaYPkg8
namespace Go.Proofs.Ytdikiabjkmigdaa
open Go.RowKit
set_option maxRecDepth 20000
set_option maxHeartbeats 4000000

/-- Where things are while bytes are read. -/
structure DZ (w0 : World) (gb ge ga q2 q8 : Nat) (A : Option Addr) (n c : Nat) (l : List UInt8) (s : Int × Int) (cs : List Value) (w : World) : Prop where
  ds : DS w0.heap.size gb ge ga A n c l s w
  m : Blk w q8 28 cs
  z : Blk w q2 28 [.int .u32 0, .int .u32 0, .int .i64 0, .int .i64 0, .int .i64 0, .int .i64 0, .int .i64 0, .int .i64 0, .slice none 0 0, .slice none 0 0, .slice none 0 0, .int .i64 0, .int .i64 0]
  bl : Below w0.heap.size w0 w
  ne : gb ≠ q8 ∧ ge ≠ q8 ∧ ga ≠ q8 ∧ q2 ≠ ge ∧ q2 ≠ ga ∧ q2 ≠ q8
  pos : w0.heap.size ≤ q8 ∧ w0.heap.size ≤ q2 ∧ w0.heap.size ≤ ge ∧ w0.heap.size ≤ ga
theorem DZ.num {w0 w w' : World} {gb ge ga q2 q8 n c : Nat} {A : Option Addr} {l : List UInt8} {s s' : Int × Int} {cs : List Value} (h : DZ w0 gb ge ga q2 q8 A n c l s cs w) (k : Keeps [ge, ga] w w') (d : DS w0.heap.size gb ge ga A n c l s' w') : DZ w0 gb ge ga q2 q8 A n c l s' cs w' := by
  have hn := h.ne
  have hp := h.pos
  refine ⟨d, k.blk h.m ?_, k.blk h.z ?_, k.below h.bl ?_ (Nat.le_refl _), h.ne, h.pos⟩
  · simp; omega
  · simp; omega
  · intro i hi; simp at hi; omega
theorem DZ.put {w0 w : World} {gb ge ga q2 q8 n c : Nat} {A : Option Addr} {l : List UInt8} {s : Int × Int} {cs : List Value} (h : DZ w0 gb ge ga q2 q8 A n c l s cs w) (j : Nat) (v : Value) : DZ w0 gb ge ga q2 q8 A n c l s (cs.set j v) (w.setCell ⟨q8, j, none⟩ v) :=
  ⟨h.ds.other ⟨h.ne.1, h.ne.2.1, h.ne.2.2.1⟩ h.pos.1 v, h.m.set j v, h.z.other h.ne.2.2.2.2.2 j v, below_set h.bl h.pos.1 v, h.ne, h.pos⟩
theorem DZ.keep {w0 w w' : World} {gb ge ga q2 q8 n c : Nat} {A : Option Addr} {l : List UInt8} {s : Int × Int} {cs : List Value} (h : DZ w0 gb ge ga q2 q8 A n c l s cs w) (hb : Below w.heap.size w w') : DZ w0 gb ge ga q2 q8 A n c l s cs w' :=
  ⟨h.ds.keep hb, h.m.keep hb h.m.lt, h.z.keep hb h.z.lt, h.bl.trans (hb.mono h.bl.size), h.ne, h.pos⟩
theorem DZ.row {w0 w w' : World} {gb ge ga q2 q8 n c B n' c' : Nat} {A A' : Option Addr} {l x : List UInt8} {s : Int × Int} {cs : List Value} (h : DZ w0 gb ge ga q2 q8 A n c l s cs w) (k : Keeps [ge, ga] w w') (r : Row w B A' n' c' (cs8 x)) (hB : B ≤ w.heap.size) : Row w' B A' n' c' (cs8 x) := by
  refine ⟨r.len, r.cap, r.max, r.nil, fun hn => ?_⟩
  obtain ⟨b, o, rfl, hlt, hc⟩ := r.cells hn
  have hl := r.len
  rw [cs8_len] at hl
  have h1 := hc 0 _ (cs8_at (by omega))
  have he : b ≠ ge := by
    rintro rfl
    rw [cell_of_row w b _ _ _ (0, 0) h.ds.e] at h1
    simp at h1
    exact int_no _ (List.mem_of_getElem? h1) _ rfl
  have ha : b ≠ ga := by
    rintro rfl
    rw [cell_of_row w b _ _ _ (0, 0) h.ds.a] at h1
    simp at h1
    exact int_no _ (List.mem_of_getElem? h1) _ rfl
  exact ⟨b, o, rfl, hlt, fun j u hu => (cell_same (k.block b (by omega) (by simp; exact ⟨he, ha⟩))).trans (hc j u hu)⟩
theorem d_bd (l : List UInt8) : (0 ≤ (d1 l).1 ∧ (d1 l).1 ≤ 8) ∧ (0 ≤ (d2 l).1 ∧ (d2 l).1 ≤ 12) ∧ (0 ≤ (d3 l).1 ∧ (d3 l).1 ≤ 13) ∧ (0 ≤ (d4 l).1 ∧ (d4 l).1 ≤ 14) ∧ (0 ≤ (d5 l).1 ∧ (d5 l).1 ≤ 15) ∧ (0 ≤ (d6 l).1 ∧ (d6 l).1 ≤ 16) ∧ (0 ≤ (d7 l).1 ∧ (d7 l).1 ≤ 17) ∧ (0 ≤ (d8 l).1 ∧ (d8 l).1 ≤ 19) := by
  have a1 := nxt_bd (l := l) (s := d0) (k := 4) (a := 4) ⟨by decide, by decide⟩
  have a2 := nxt_bd (l := l) (k := 4) a1
  have a3 := nxt_bd (l := l) (k := 1) a2
  have a4 := nxt_bd (l := l) (k := 1) a3
  have a5 := nxt_bd (l := l) (k := 1) a4
  have a6 := nxt_bd (l := l) (k := 1) a5
  have a7 := nxt_bd (l := l) (k := 1) a6
  have a8 := nxt_bd (l := l) (k := 2) a7
  exact ⟨a1, a2, a3, a4, a5, a6, a7, a8⟩
theorem conv_three (w : World) (o o2 : Obj) (C : Array Value) (n c : Nat) : (convert 31 31 (.slice (some ⟨w.heap.size + 1 + 1, 0, none⟩) n c)).run Try.prog (((w.alloc o).alloc o2).alloc (.cells C 5)) =
    .ok (.slice (some ⟨w.heap.size + 1 + 1, 0, none⟩) n c) (((w.alloc o).alloc o2).alloc (.cells C 5 (C.size, C.size + 1))) := by
  have h := conv_two (w.alloc o) o2 C n c
  rw [show (w.alloc o).heap.size = w.heap.size + 1 by simp] at h
  exact h
/-- An image, of new memory, and a fault. -/
def GivesM (w : World) (m : Im) (er : Int) (e : Ending) (w' : World) : Prop :=
  ∃ K : IV, e = .returned (.tuple #[.agg #[.int .u32 K.v, .int .u32 K.f, .int .i64 K.e, .int .i64 K.s, .int .i64 K.o, .int .i64 K.n, .int .i64 K.i, .int .i64 K.u, .slice K.fA K.fn K.fc, .slice K.sA K.sn K.sc, .slice K.mA K.mn K.mc, .int .i64 K.x, .int .i64 K.y], .int .i64 er]) ∧ K.m = m ∧ w'.ownsRow w.heap.size 21 1 (.slice K.fA K.fn K.fc) K.fn (c32 K.fs) ∧ w'.ownsRow w.heap.size 54 2 (.slice K.sA K.sn K.sc) K.sn (csI K.st) ∧ w'.ownsRow w.heap.size 54 2 (.slice K.mA K.mn K.mc) K.mn (csI K.mv) ∧ Below w.heap.size w w'
theorem GivesM.zero {w w' : World} {er k : Int} {m : Im} (hm : m = zeroM) (he : er = k) (hb : Below w.heap.size w w') : GivesM w m er (.returned (.tuple #[.agg #[.int .u32 0, .int .u32 0, .int .i64 0, .int .i64 0, .int .i64 0, .int .i64 0, .int .i64 0, .int .i64 0, .slice none 0 0, .slice none 0 0, .slice none 0 0, .int .i64 0, .int .i64 0], .int .i64 k])) w' := by
  subst hm; subst he
  exact ⟨⟨0, 0, 0, 0, 0, 0, 0, 0, 0, 0, [], [], [], none, 0, 0, none, 0, 0, none, 0, 0⟩, rfl, rfl, World.ownsRow_nil _ _ _ _, World.ownsRow_nil _ _ _ _, World.ownsRow_nil _ _ _ _, hb⟩
open Classical in
noncomputable def decM (l : List UInt8) : Im := if Frm l then rdM l else zeroM
open Classical in
noncomputable def decE (l : List UInt8) : Int := if Frm l then 0 else 4
theorem dec_no {l : List UInt8} (h : ¬ Frm l) : decM l = zeroM ∧ decE l = 4 := ⟨if_neg h, if_neg h⟩
theorem dec_yes {l : List UInt8} (h : Frm l) : decM l = rdM l ∧ decE l = 0 := ⟨if_pos h, if_pos h⟩
theorem head_world (w : World) (A : Option Addr) (n c : Nat) : Below w.heap.size w (((w.alloc (.cells #[.slice A n c] 31)).alloc (.cells #[.int .u32 0, .int .u32 0, .int .i64 0, .int .i64 0, .int .i64 0, .int .i64 0, .int .i64 0, .int .i64 0, .slice none 0 0, .slice none 0 0, .slice none 0 0, .int .i64 0, .int .i64 0] 28)).alloc (.cells #[.int .u8 77, .int .u8 73, .int .u8 68, .int .u8 83] 5 (4, 5))) ∧
    Row (((w.alloc (.cells #[.slice A n c] 31)).alloc (.cells #[.int .u32 0, .int .u32 0, .int .i64 0, .int .i64 0, .int .i64 0, .int .i64 0, .int .i64 0, .int .i64 0, .slice none 0 0, .slice none 0 0, .slice none 0 0, .int .i64 0, .int .i64 0] 28)).alloc (.cells #[.int .u8 77, .int .u8 73, .int .u8 68, .int .u8 83] 5 (4, 5))) (w.heap.size + 1 + 1 + 1) (some ⟨w.heap.size + 1 + 1, 0, none⟩) 4 4 (cs8 mids) ∧
    Blk (((w.alloc (.cells #[.slice A n c] 31)).alloc (.cells #[.int .u32 0, .int .u32 0, .int .i64 0, .int .i64 0, .int .i64 0, .int .i64 0, .int .i64 0, .int .i64 0, .slice none 0 0, .slice none 0 0, .slice none 0 0, .int .i64 0, .int .i64 0] 28)).alloc (.cells #[.int .u8 77, .int .u8 73, .int .u8 68, .int .u8 83] 5 (4, 5))) w.heap.size 31 [.slice A n c] ∧
    Blk (((w.alloc (.cells #[.slice A n c] 31)).alloc (.cells #[.int .u32 0, .int .u32 0, .int .i64 0, .int .i64 0, .int .i64 0, .int .i64 0, .int .i64 0, .int .i64 0, .slice none 0 0, .slice none 0 0, .slice none 0 0, .int .i64 0, .int .i64 0] 28)).alloc (.cells #[.int .u8 77, .int .u8 73, .int .u8 68, .int .u8 83] 5 (4, 5))) (w.heap.size + 1) 28 [.int .u32 0, .int .u32 0, .int .i64 0, .int .i64 0, .int .i64 0, .int .i64 0, .int .i64 0, .int .i64 0, .slice none 0 0, .slice none 0 0, .slice none 0 0, .int .i64 0, .int .i64 0] ∧
    (((w.alloc (.cells #[.slice A n c] 31)).alloc (.cells #[.int .u32 0, .int .u32 0, .int .i64 0, .int .i64 0, .int .i64 0, .int .i64 0, .int .i64 0, .int .i64 0, .slice none 0 0, .slice none 0 0, .slice none 0 0, .int .i64 0, .int .i64 0] 28)).alloc (.cells #[.int .u8 77, .int .u8 73, .int .u8 68, .int .u8 83] 5 (4, 5))).heap.size = w.heap.size + 1 + 1 + 1 := by
  have h := row_lit ((w.alloc (.cells #[.slice A n c] 31)).alloc (.cells #[.int .u32 0, .int .u32 0, .int .i64 0, .int .i64 0, .int .i64 0, .int .i64 0, .int .i64 0, .int .i64 0, .slice none 0 0, .slice none 0 0, .slice none 0 0, .int .i64 0, .int .i64 0] 28)) #[.int .u8 77, .int .u8 73, .int .u8 68, .int .u8 83] 5 (4, 5) 4 rfl (by unfold maxLen; omega) (cs8 mids) rfl
  rw [show ((w.alloc (.cells #[.slice A n c] 31)).alloc (.cells #[.int .u32 0, .int .u32 0, .int .i64 0, .int .i64 0, .int .i64 0, .int .i64 0, .int .i64 0, .int .i64 0, .slice none 0 0, .slice none 0 0, .slice none 0 0, .int .i64 0, .int .i64 0] 28)).heap.size = w.heap.size + 1 + 1 by simp] at h
  exact ⟨(two_below w _ _).alloc (by simp; omega) _, h, ((Blk.new w _ _).alloc _).alloc _, (img_two w _ _).alloc _, by simp⟩
theorem decoded_head (B : Nat) (A : Option Addr) (n c : Nat) (l : List UInt8) (w : World) (hr : Row w B A n c (cs8 l)) (hB : B ≤ w.heap.size) (hh : l.take 4 ≠ mids) :
    Calls Try.prog 25 #[.slice A n c] w (GivesM w (decM l) (decE l)) := by
  have kc := fun (o o2 : Obj) => conv_three w o o2 #[.int .u8 77, .int .u8 73, .int .u8 68, .int .u8 83] 4 4
  obtain ⟨e1, e2⟩ := dec_no (l := l) fun h => hh h.head
  have HD := hide (And.intro e1 e2)
  have HH := hide (decide_eq_false hh)
  clear e1 e2 hh
  go_enter Try.func25, Try.ntmps25
  go_wp2_with fail
  obtain ⟨hb, hm, bB, bZ, hsz⟩ := head_world w A n c
  have HB := hide (And.intro hb (And.intro bZ bB))
  have HZ := hide hsz
  clear kc
  refine (HasPrefix_mids B (w.heap.size + 1 + 1 + 1) A _ n c 4 l _ false (hr.keep hb hB) hm HH.out).mono ?_
  rintro e' w' ⟨rfl, rfl⟩
  clear hb hm bB hsz
  generalize ((w.alloc (.cells #[.slice A n c] 31)).alloc (.cells #[.int .u32 0, .int .u32 0, .int .i64 0, .int .i64 0, .int .i64 0, .int .i64 0, .int .i64 0, .int .i64 0, .slice none 0 0, .slice none 0 0, .slice none 0 0, .int .i64 0, .int .i64 0] 28)).alloc (.cells #[.int .u8 77, .int .u8 73, .int .u8 68, .int .u8 83] 5 (4, 5)) = w1 at HB HZ bZ ⊢
  have fZ := fun j => bZ.frozen j
  obtain ⟨z0, z1, z2, z3, z4, z5, z6, z7, z8, z9, z10, z11, z12⟩ := cells13 bZ
  have lZ := bZ.lt
  clear bZ
  go_wp2
  obtain ⟨hb, bZ, _⟩ := HB.out
  refine ret_im (g := w.heap.size + 1) rfl rfl rfl (bZ.put13 _ _ _ _ _ _ _ _ _ _ _ _ _) rfl ?_
  exact GivesM.zero HD.out.1 HD.out.2 (below13 hb (by omega) _ _ _ _ _ _ _ _ _ _ _ _ _)

end Go.Proofs.Ytdikiabjkmigdaa
