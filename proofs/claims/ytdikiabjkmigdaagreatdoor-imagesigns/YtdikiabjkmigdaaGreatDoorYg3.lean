/-
  Contracts of package image: the closures of encoding, and encoding.
-/
import Derived.Test.YtdikiabjkmigdaaGreatDoorYg2
import Derived.Lib.SlBytesConst
namespace Go.Proofs.YtdikiabjkmigdaaGreatDoor
open Go.RowKit
set_option maxRecDepth 20000
set_option maxHeartbeats 2000000

theorem cell_same {w w' : World} {b o : Nat} (h : w'.heap[b]? = w.heap[b]?) : w'.cell? ⟨b, o, none⟩ = w.cell? ⟨b, o, none⟩ := by
  unfold World.cell?
  simp [h]
/-- Bytes stay where a block of other cells is written. -/
theorem Row.off8 {w w' : World} {B g n c : Nat} {A : Option Addr} {t : TypeId} {cs : List Value} {l : List UInt8} (hb : Blk w g t cs) (hcs : ∀ u ∈ cs, ∀ v, u ≠ Value.int .u8 v) (h : Row w B A n c (cs8 l)) (hk : ∀ k, k ≠ g → w'.heap[k]? = w.heap[k]?) : Row w' B A n c (cs8 l) := by
  refine ⟨h.len, h.cap, h.max, h.nil, fun hn => ?_⟩
  obtain ⟨b, o, rfl, hlt, hc⟩ := h.cells hn
  have hl := h.len
  rw [cs8_len] at hl
  have hne : b ≠ g := by
    rintro rfl
    have h1 := hc 0 _ (cs8_at (by omega))
    rw [cell_of_row w b _ _ t (0, 0) hb] at h1
    simp at h1
    exact hcs _ (List.mem_of_getElem? h1) _ rfl
  exact ⟨b, o, rfl, hlt, fun j u hu => (cell_same (hk b hne)).trans (hc j u hu)⟩
theorem slice_no {A : Option Addr} {n c : Nat} : ∀ u ∈ [Value.slice A n c], ∀ v, u ≠ Value.int .u8 v := by
  intro u hu v; rw [List.mem_singleton] at hu; subst hu; exact Value.noConfusion
/-- Bytes behind a cell. -/
def OutS (g : Nat) (l : List UInt8) (w : World) : Prop :=
  ∃ A n c, Blk w g 29 [.slice A n c] ∧ Row w w.heap.size A n c (cs8 l)
theorem OutS.keep {g : Nat} {l : List UInt8} {w w' : World} (h : OutS g l w) (hb : Below w.heap.size w w') : OutS g l w' := by
  obtain ⟨A, n, c, b, r⟩ := h
  exact ⟨A, n, c, b.keep hb b.lt, (r.keep hb (Nat.le_refl _)).more hb.size⟩
theorem OutS.put {g : Nat} {l : List UInt8} {w w' : World} {A A' : Option Addr} {n c n' c' : Nat} (b : Blk w g 29 [.slice A n c]) (hb : Below w.heap.size w w') (o : w'.ownsRow w.heap.size 5 1 (.slice A' n' c') n' (cs8 l)) :
    OutS g l (w'.setCell ⟨g, 0, none⟩ (.slice A' n' c')) ∧ Keeps [g] w (w'.setCell ⟨g, 0, none⟩ (.slice A' n' c')) := by
  have b2 := b.keep hb b.lt
  refine ⟨⟨A', n', c', b2.set 0 (.slice A' n' c'), ?_⟩, (Keeps.of_below hb).set (.inl (by simp)) _⟩
  rw [show (w'.setCell ⟨g, 0, none⟩ (.slice A' n' c')).heap.size = w'.heap.size by simp [World.setCell]]
  exact Row.off8 b2 slice_no (Row.of_own o) fun k hk => heap_setCell_other w' ⟨g, 0, none⟩ k _ hk
theorem OutS.len {g : Nat} {l : List UInt8} {w : World} (h : OutS g l w) : l.length ≤ 9223372036854775807 := by
  obtain ⟨A, n, c, b, r⟩ := h
  have h1 := r.len; have h2 := r.cap; have h3 := r.max
  rw [cs8_len] at h1
  unfold maxLen at h3
  omega
/-- The closure that puts a number. -/
theorem putNum_any (g k v : Nat) (ki vi : Int) (l : List UInt8) (w : World) (hk : ki = (k : Int)) (hv : vi = (v : Int)) (h : OutS g l w) (hl : l.length ≤ 1099511627776) (hw : 1 ≤ k ∧ k ≤ 8) (hf : v < 256 ^ k) :
    Calls Tryz.prog 36 #[.int .i64 ki, .int .u64 vi, .pointer (some ⟨g, 0, none⟩)] w fun e w' => e = .returned (.tuple #[]) ∧ OutS g (l ++ leB k v) w' ∧ Keeps [g] w w' := by
  obtain ⟨A, n, c, b, hR⟩ := h
  have hlen := hR.len
  rw [cs8_len] at hlen
  have c0 := b.cell (j := 0) rfl
  have f0 := b.frozen 0
  have hgl := b.lt
  subst hv
  subst hk
  have HF := hide hf
  have HW := hide hw
  clear hf hw
  go_enter Tryz.func36, Tryz.ntmps36
  go_wp2_with fail
  refine (Put_ok w.heap.size A n c l k v _ w rfl hR (Nat.le_refl _) (by omega) HW.out HF.out).mono ?_
  rintro e w2 ⟨A2, n2, c2, rfl, o2, hb2⟩
  have P := hide (OutS.put b hb2 o2)
  have b2 := b.keep hb2 hgl
  have f2 := b2.frozen 0
  have cc2 := b2.cell (j := 0) rfl
  have hg2 := b2.lt
  clear o2 b b2 hR c0 f0
  go_wp2
  go_end0
  exact ⟨rfl, P.out.1, P.out.2⟩
/-- The closure that puts a run. -/
theorem putRun_any (g B : Nat) (l x : List UInt8) (Ax : Option Addr) (nx cx : Nat) (w : World) (hx : Row w B Ax nx cx (cs8 x)) (hB : B ≤ w.heap.size) (h : OutS g l w) (hl : l.length ≤ 1099511627776) (hf : x.length ≤ 65535) :
    Calls Tryz.prog 38 #[.slice Ax nx cx, .pointer (some ⟨g, 0, none⟩)] w fun e w' => e = .returned (.tuple #[]) ∧ OutS g (addR l x) w' ∧ Keeps [g] w w' := by
  obtain ⟨A, n, c, b, hR⟩ := h
  have hlen := hR.len
  rw [cs8_len] at hlen
  have c0 := b.cell (j := 0) rfl
  have f0 := b.frozen 0
  have hgl := b.lt
  go_enter Tryz.func38, Tryz.ntmps38
  go_wp2_with fail
  refine (PutRun_any w.heap.size A n c l Ax nx cx x w hR (hx.more hB) (Nat.le_refl _) (by omega)).mono ?_
  rw [prL_ok hf, prE_ok hf]
  rintro e w2 ⟨A2, n2, c2, rfl, o2, hb2⟩
  have P := hide (OutS.put (l := addR l x) b hb2 o2)
  have b2 := b.keep hb2 hgl
  have f2 := b2.frozen 0
  have cc2 := b2.cell (j := 0) rfl
  have hg2 := b2.lt
  clear o2 b b2 hR c0 f0 hx
  go_wp2
  go_end0
  exact ⟨rfl, P.out.1, P.out.2⟩
/-- Where things are while an image is laid. -/
structure EN (w0 : World) (cs : List Value) (q g : Nat) (l : List UInt8) (w : World) : Prop where
  ne : q ≠ g
  box : Blk w q 28 cs
  out : OutS g l w
  bl : Below w0.heap.size w0 w
  pos : w0.heap.size ≤ g
theorem EN.put {w0 w w' : World} {cs : List Value} {q g : Nat} {l l' : List UInt8} (h : EN w0 cs q g l w) (k : Keeps [g] w w') (o : OutS g l' w') : EN w0 cs q g l' w' :=
  ⟨h.ne, k.blk h.box (by simpa using h.ne), o, k.below h.bl (by simpa using h.pos) (Nat.le_refl _), h.pos⟩
theorem EN.keep {w0 w w' : World} {cs : List Value} {q g : Nat} {l : List UInt8} (h : EN w0 cs q g l w) (hb : Below w.heap.size w w') : EN w0 cs q g l w' :=
  ⟨h.ne, h.box.keep hb h.box.lt, h.out.keep hb, h.bl.trans (hb.mono h.bl.size), h.pos⟩
theorem EN.init (w : World) (c0 c1 c2 c3 c4 c5 c6 c7 c8 c9 c10 c11 c12 : Value) :
    EN w [c0, c1, c2, c3, c4, c5, c6, c7, c8, c9, c10, c11, c12] w.heap.size (w.heap.size + 1 + 1) mids (((w.alloc (.cells #[c0, c1, c2, c3, c4, c5, c6, c7, c8, c9, c10, c11, c12] 28)).alloc (.cells #[.int .u8 77, .int .u8 73, .int .u8 68, .int .u8 83] 5 (4, 5))).alloc (.cells #[.slice (some ⟨w.heap.size + 1, 0, none⟩) 4 4] 29)) := by
  have h := row_lit (w.alloc (.cells #[c0, c1, c2, c3, c4, c5, c6, c7, c8, c9, c10, c11, c12] 28)) #[.int .u8 77, .int .u8 73, .int .u8 68, .int .u8 83] 5 (4, 5) 4 rfl (by unfold maxLen; omega) (cs8 mids) rfl
  rw [show (w.alloc (.cells #[c0, c1, c2, c3, c4, c5, c6, c7, c8, c9, c10, c11, c12] 28)).heap.size = w.heap.size + 1 by simp] at h
  have h2 := h.alloc (by simp) (.cells #[.slice (some ⟨w.heap.size + 1, 0, none⟩) 4 4] 29)
  refine ⟨by omega, ((Blk.new w _ _).alloc _).alloc _, ⟨_, 4, 4, Blk.at _ _ _ (by simp), h2.more (by simp)⟩, ?_, by omega⟩
  exact (two_below w _ _).alloc (by simp; omega) _
theorem conv_two (w : World) (o : Obj) (C : Array Value) (n c : Nat) : (convert 29 29 (.slice (some ⟨w.heap.size + 1, 0, none⟩) n c)).run Tryz.prog ((w.alloc o).alloc (.cells C 5)) =
    .ok (.slice (some ⟨w.heap.size + 1, 0, none⟩) n c) ((w.alloc o).alloc (.cells C 5 (C.size, C.size + 1))) := by
  have h := Lib.run_convert_bytes_const (P := Tryz.prog) (w.alloc o) 29 5 C n c Tryz.underlying29 Tryz.underlying5
  rw [show (w.alloc o).heap.size = w.heap.size + 1 by simp] at h
  exact h
/-- Bytes; what was there is as it was. -/
def GivesR (w : World) (r : List UInt8) (e : Ending) (w' : World) : Prop := ∃ A n c, e = .returned (.slice A n c) ∧ Row w' w'.heap.size A n c (cs8 r) ∧ Below w.heap.size w w'
theorem encoding_any (K : IV) (w : World) (hK : Held w w.heap.size K) (hF : Fit K.m) (hn : K.fs.length ≤ 600) :
    Calls Tryz.prog 22 #[.agg #[.int .u32 K.v, .int .u32 K.f, .int .i64 K.e, .int .i64 K.s, .int .i64 K.o, .int .i64 K.n, .int .i64 K.i, .int .i64 K.u, .slice K.fA K.fn K.fc, .slice K.sA K.sn K.sc, .slice K.mA K.mn K.mc, .int .i64 K.x, .int .i64 K.y]] w (GivesR w (encM K.m)) := by
  have hst := hK.st
  have hmv := hK.mv
  have hfs := hK.fs
  have hfl := row_len hfs
  obtain ⟨v, f, e, s, o, n, i, u, x, y, fs, st, mv, fA, fn, fc, sA, sn, sc, mA, mn, mc⟩ := K
  simp only at hst hmv hfs hfl hn ⊢
  have h1 := hF.ver
  have h2 := hF.frm
  have h3 := hF.el
  have h4 := hF.s
  have h5 := hF.n
  have h6 := hF.i
  have h7 := hF.u
  have h8 := hF.sf
  have h9 := hF.mf
  have hS := hF.st
  have hM := hF.mv
  simp only [IV.m] at h1 h2 h3 h4 h5 h6 h7 h8 h9 hS hM ⊢
  obtain ⟨v, rfl⟩ := Int.eq_ofNat_of_zero_le h1.1
  obtain ⟨f, rfl⟩ := Int.eq_ofNat_of_zero_le h2.1
  obtain ⟨e, rfl⟩ := Int.eq_ofNat_of_zero_le h3.1
  obtain ⟨s, rfl⟩ := Int.eq_ofNat_of_zero_le h4.1
  obtain ⟨n, rfl⟩ := Int.eq_ofNat_of_zero_le h5.1
  obtain ⟨i, rfl⟩ := Int.eq_ofNat_of_zero_le h6.1
  obtain ⟨u, rfl⟩ := Int.eq_ofNat_of_zero_le h7.1
  obtain ⟨x, rfl⟩ := Int.eq_ofNat_of_zero_le h8.1
  obtain ⟨y, rfl⟩ := Int.eq_ofNat_of_zero_le h9.1
  replace h1 : v < 4294967296 := by omega
  replace h2 : f < 4294967296 := by omega
  replace h3 : e < 256 := by omega
  replace h4 : s < 256 := by omega
  replace h5 : n < 256 := by omega
  replace h6 : i < 256 := by omega
  replace h7 : u < 256 := by omega
  replace h8 : x < 65536 := by omega
  replace h9 : y < 65536 := by omega
  have HS := hide hS
  have HM := hide hM
  have HL := hide hfl
  clear hS hM hF hfl
  have kc := fun (o : Obj) => conv_two w o #[.int .u8 77, .int .u8 73, .int .u8 68, .int .u8 83] 4 4
  go_enter Tryz.func22, Tryz.ntmps22
  go_wp2_with fail
  have N0 := EN.init w (.int .u32 (v : Int)) (.int .u32 (f : Int)) (.int .i64 (e : Int)) (.int .i64 (s : Int)) (.int .i64 o) (.int .i64 (n : Int)) (.int .i64 (i : Int)) (.int .i64 (u : Int)) (.slice fA fn fc) (.slice sA sn sc) (.slice mA mn mc) (.int .i64 (x : Int)) (.int .i64 (y : Int))
  generalize ((w.alloc (.cells #[.int .u32 (v : Int), .int .u32 (f : Int), .int .i64 (e : Int), .int .i64 (s : Int), .int .i64 o, .int .i64 (n : Int), .int .i64 (i : Int), .int .i64 (u : Int), .slice fA fn fc, .slice sA sn sc, .slice mA mn mc, .int .i64 (x : Int), .int .i64 (y : Int)] 28)).alloc (.cells #[.int .u8 77, .int .u8 73, .int .u8 68, .int .u8 83] 5 (4, 5))).alloc (.cells #[.slice (some ⟨w.heap.size + 1, 0, none⟩) 4 4] 29) = w0 at N0 ⊢
  generalize w.heap.size + 1 + 1 = g at N0 ⊢
  clear kc
  refine (putNum_any g 4 v _ _ _ _ rfl rfl N0.out (by simp [mids]) (by omega) (Nat.lt_of_lt_of_eq h1 (by decide))).mono ?_
  rintro e' w1 ⟨rfl, o1, q1⟩
  have N1 := N0.put q1 o1
  clear N0 q1 o1
  obtain ⟨k0, k1, k2, k3, k4, k5, k6, k7, k8, k9, k10, k11, k12⟩ := cells13 N1.box
  go_wp2_with fail
  clear k0 k1 k2 k3 k4 k5 k6 k7 k8 k9 k10 k11 k12
  refine (putNum_any g 4 f _ _ _ _ rfl rfl N1.out (by simp [mids, leB_len]) (by omega) (Nat.lt_of_lt_of_eq h2 (by decide))).mono ?_
  rintro e' w2 ⟨rfl, o2, q2⟩
  have N2 := N1.put q2 o2
  clear N1 q2 o2
  obtain ⟨k0, k1, k2, k3, k4, k5, k6, k7, k8, k9, k10, k11, k12⟩ := cells13 N2.box
  go_wp2_with fail
  clear k0 k1 k2 k3 k4 k5 k6 k7 k8 k9 k10 k11 k12
  refine (putNum_any g 1 e _ _ _ _ rfl rfl N2.out (by simp [mids, leB_len]) (by omega) (Nat.lt_of_lt_of_eq h3 (by decide))).mono ?_
  rintro e' w3 ⟨rfl, o3, q3⟩
  have N3 := N2.put q3 o3
  clear N2 q3 o3
  obtain ⟨k0, k1, k2, k3, k4, k5, k6, k7, k8, k9, k10, k11, k12⟩ := cells13 N3.box
  go_wp2_with fail
  clear k0 k1 k2 k3 k4 k5 k6 k7 k8 k9 k10 k11 k12
  refine (putNum_any g 1 s _ _ _ _ rfl rfl N3.out (by simp [mids, leB_len]) (by omega) (Nat.lt_of_lt_of_eq h4 (by decide))).mono ?_
  rintro e' w4 ⟨rfl, o4, q4⟩
  have N4 := N3.put q4 o4
  clear N3 q4 o4
  obtain ⟨k0, k1, k2, k3, k4, k5, k6, k7, k8, k9, k10, k11, k12⟩ := cells13 N4.box
  go_wp2_with fail
  clear k0 k1 k2 k3 k4 k5 k6 k7 k8 k9 k10 k11 k12
  refine (putNum_any g 1 n _ _ _ _ rfl rfl N4.out (by simp [mids, leB_len]) (by omega) (Nat.lt_of_lt_of_eq h5 (by decide))).mono ?_
  rintro e' w5 ⟨rfl, o5, q5⟩
  have N5 := N4.put q5 o5
  clear N4 q5 o5
  obtain ⟨k0, k1, k2, k3, k4, k5, k6, k7, k8, k9, k10, k11, k12⟩ := cells13 N5.box
  go_wp2_with fail
  clear k0 k1 k2 k3 k4 k5 k6 k7 k8 k9 k10 k11 k12
  refine (putNum_any g 1 i _ _ _ _ rfl rfl N5.out (by simp [mids, leB_len]) (by omega) (Nat.lt_of_lt_of_eq h6 (by decide))).mono ?_
  rintro e' w6 ⟨rfl, o6, q6⟩
  have N6 := N5.put q6 o6
  clear N5 q6 o6
  obtain ⟨k0, k1, k2, k3, k4, k5, k6, k7, k8, k9, k10, k11, k12⟩ := cells13 N6.box
  go_wp2_with fail
  clear k0 k1 k2 k3 k4 k5 k6 k7 k8 k9 k10 k11 k12
  refine (putNum_any g 1 u _ _ _ _ rfl rfl N6.out (by simp [mids, leB_len]) (by omega) (Nat.lt_of_lt_of_eq h7 (by decide))).mono ?_
  rintro e' w7 ⟨rfl, o7, q7⟩
  have N7 := N6.put q7 o7
  clear N6 q7 o7
  obtain ⟨k0, k1, k2, k3, k4, k5, k6, k7, k8, k9, k10, k11, k12⟩ := cells13 N7.box
  go_wp2_with fail
  clear k0 k1 k2 k3 k4 k5 k6 k7 k8 k9 k10 k11 k12
  refine (putNum_any g 2 x _ _ _ _ rfl rfl N7.out (by simp [mids, leB_len]) (by omega) (Nat.lt_of_lt_of_eq h8 (by decide))).mono ?_
  rintro e' w8 ⟨rfl, o8, q8⟩
  have N8 := N7.put q8 o8
  clear N7 q8 o8
  obtain ⟨k0, k1, k2, k3, k4, k5, k6, k7, k8, k9, k10, k11, k12⟩ := cells13 N8.box
  go_wp2_with fail
  clear k0 k1 k2 k3 k4 k5 k6 k7 k8 k9 k10 k11 k12
  refine (putNum_any g 2 y _ _ _ _ rfl rfl N8.out (by simp [mids, leB_len]) (by omega) (Nat.lt_of_lt_of_eq h9 (by decide))).mono ?_
  rintro e' w9 ⟨rfl, o9, q9⟩
  have N9 := N8.put q9 o9
  clear N8 q9 o9
  obtain ⟨k0, k1, k2, k3, k4, k5, k6, k7, k8, k9, k10, k11, k12⟩ := cells13 N9.box
  go_wp2_with fail
  clear k0 k1 k2 k3 k4 k5 k6 k7 k8 k9 k10 k11 k12
  have hl9 := hdr_len ⟨v, f, e, ⟨s, o, n, i, u⟩, fs, st, mv, x, y⟩
  have N := hide N9
  clear N9
  obtain ⟨L9, hL9⟩ : ∃ L, hdrM ⟨v, f, e, ⟨s, o, n, i, u⟩, fs, st, mv, x, y⟩ = L := ⟨_, rfl⟩
  have N9 : EN w [.int .u32 (v : Int), .int .u32 (f : Int), .int .i64 (e : Int), .int .i64 (s : Int), .int .i64 o, .int .i64 (n : Int), .int .i64 (i : Int), .int .i64 (u : Int), .slice fA fn fc, .slice sA sn sc, .slice mA mn mc, .int .i64 (x : Int), .int .i64 (y : Int)] w.heap.size g L9 w9 := by rw [← hL9]; exact N.out
  rw [hL9] at hl9
  have HL9 := hide hL9
  have HN9 := hide hl9
  clear hL9 hl9 N
  have b9 := N9.bl
  have s9 := b9.size
  refine (bytesOf_any w.heap.size fA fn fc fs w9 (hfs.keep b9 (Nat.le_refl _)) s9 (by have := HL.out; omega)).mono ?_
  rintro e' w10 ⟨A10, n10, c10, rfl, o10, q10⟩
  have r10 := Row.of_own o10
  have N10 := N9.keep q10
  clear N9 o10 b9
  obtain ⟨k0, k1, k2, k3, k4, k5, k6, k7, k8, k9, k10, k11, k12⟩ := cells13 N10.box
  go_wp2_with fail
  clear k0 k1 k2 k3 k4 k5 k6 k7 k8 k9 k10 k11 k12
  refine (putRun_any g _ _ _ _ _ _ w10 r10 (Nat.le_refl _) N10.out (by have := HN9.out; omega) (by have := HL.out; rw [fsB_len]; omega)).mono ?_
  rintro e' w11 ⟨rfl, o11, q11⟩
  have N11 := N10.put q11 o11
  clear N10 q11 o11 r10 q10
  obtain ⟨k0, k1, k2, k3, k4, k5, k6, k7, k8, k9, k10, k11, k12⟩ := cells13 N11.box
  go_wp2_with fail
  clear k0 k1 k2 k3 k4 k5 k6 k7 k8 k9 k10 k11 k12
  have b11 := N11.bl
  have s11 := b11.size
  refine (Encode_any w.heap.size sA sn sc st w11 (hst.keep b11 (Nat.le_refl _)) s11).mono ?_
  rw [HS.out]
  rintro e' w12 ⟨A12, n12, c12, rfl, o12, q12⟩
  have r12 := Row.of_own o12
  have N12 := N11.keep q12
  clear N11 o12 b11
  obtain ⟨k0, k1, k2, k3, k4, k5, k6, k7, k8, k9, k10, k11, k12⟩ := cells13 N12.box
  go_wp2_with fail
  clear k0 k1 k2 k3 k4 k5 k6 k7 k8 k9 k10 k11 k12
  refine (putRun_any g _ _ _ _ _ _ w12 r12 (Nat.le_refl _) N12.out (by have := HN9.out; have := HL.out; simp only [addR, List.length_append, leB_len, fsB_len]; omega) (Nat.le_trans (encL_small HS.out) (by decide))).mono ?_
  rintro e' w13 ⟨rfl, o13, q13⟩
  have N13 := N12.put q13 o13
  clear N12 q13 o13 r12 q12
  obtain ⟨k0, k1, k2, k3, k4, k5, k6, k7, k8, k9, k10, k11, k12⟩ := cells13 N13.box
  go_wp2_with fail
  clear k0 k1 k2 k3 k4 k5 k6 k7 k8 k9 k10 k11 k12
  have b13 := N13.bl
  have s13 := b13.size
  refine (Encode_any w.heap.size mA mn mc mv w13 (hmv.keep b13 (Nat.le_refl _)) s13).mono ?_
  rw [HM.out]
  rintro e' w14 ⟨A14, n14, c14, rfl, o14, q14⟩
  have r14 := Row.of_own o14
  have N14 := N13.keep q14
  clear N13 o14 b13
  obtain ⟨k0, k1, k2, k3, k4, k5, k6, k7, k8, k9, k10, k11, k12⟩ := cells13 N14.box
  go_wp2_with fail
  clear k0 k1 k2 k3 k4 k5 k6 k7 k8 k9 k10 k11 k12
  refine (putRun_any g _ _ _ _ _ _ w14 r14 (Nat.le_refl _) N14.out (by have := HN9.out; have := HL.out; have := encL_small HS.out; simp only [addR, List.length_append, leB_len, fsB_len]; omega) (Nat.le_trans (encL_small HM.out) (by decide))).mono ?_
  rintro e' w15 ⟨rfl, o15, q15⟩
  have N15 := N14.put q15 o15
  clear N14 q15 o15 r14 q14
  obtain ⟨Az, nz, cz, bz, rz⟩ := N15.out
  have kz := bz.cell (j := 0) rfl
  go_wp2
  go_ret
  refine ⟨Az, nz, cz, rfl, ?_, N15.bl⟩
  unfold encM
  rw [HL9.out]
  exact rz

end Go.Proofs.YtdikiabjkmigdaaGreatDoor
