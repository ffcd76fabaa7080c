/-
  Contract of midstreamref11.Encode.
-/
import Derived.Test.YtdikiabjkmigdaaGreatDoorYg4
import Derived.Test.YtdikiabjkmigdaaGreatDoorYg7
import Derived.Test.YtdikiabjkmigdaaGreatDoorYg2
namespace Go.Proofs.YtdikiabjkmigdaaGreatDoor
open Go.RowKit
set_option maxRecDepth 20000
set_option maxHeartbeats 4000000

theorem rNumber_any (B k v : Nat) (ki vi : Int) (A : Option Addr) (n c : Nat) (l : List UInt8) (w : World) (hr : Row w B A n c (cs8 l)) (hB : B ≤ w.heap.size) (hl : n ≤ 1099511627776) (hki : ki = (k : Int)) (hvi : vi = (v : Int)) (hk : 1 ≤ k ∧ k ≤ 8) (hv : v < 256 ^ k) (hv2 : v ≤ 4294967295) :
    Calls Tryz.prog 56 #[.slice A n c, .int .i64 ki, .int .i64 vi] w (LayPost w.heap.size w (l ++ leB k v)) := by
  subst hki
  subst hvi
  have HK := hide (And.intro hk hv)
  clear hk hv
  go_enter Tryz.func56, Tryz.ntmps56
  go_wp2_with fail
  refine (rPut_ok B A n c l k v _ w rfl hr hB hl HK.out.1 HK.out.2 hv2).mono ?_
  rintro e w2 ⟨A2, n2, c2, rfl, o2, hb2⟩
  go_wp2
  go_ret
  exact ⟨A2, n2, c2, rfl, o2, hb2⟩
theorem rRun_any (B : Nat) (A : Option Addr) (n c : Nat) (l : List UInt8) (A' : Option Addr) (n' c' : Nat) (x : List UInt8) (w : World) (hr : Row w B A n c (cs8 l)) (hx : Row w B A' n' c' (cs8 x)) (hB : B ≤ w.heap.size) (hl : n ≤ 549755813888) (hf : x.length ≤ 65535) :
    Calls Tryz.prog 59 #[.slice A n c, .slice A' n' c'] w (LayPost w.heap.size w (addR l x)) := by
  go_enter Tryz.func59, Tryz.ntmps59
  go_wp2_with fail
  refine (rPutRun_any B A n c l A' n' c' x w hr hx hB hl).mono ?_
  rw [prL_ok hf, prE_ok hf]
  rintro e w2 ⟨A2, n2, c2, rfl, o2, hb2⟩
  go_wp2
  go_ret
  exact ⟨A2, n2, c2, rfl, o2, hb2⟩

end Go.Proofs.YtdikiabjkmigdaaGreatDoor
namespace Go.Proofs.YtdikiabjkmigdaaGreatDoor
open Go.RowKit
set_option maxRecDepth 20000
set_option maxHeartbeats 4000000

theorem fsB_next {fs : List Int} {j : Nat} (h : j < fs.length) : fsB (fs.take (j + 1)) = fsB (fs.take j) ++ leB 4 (plN (gd fs j)) := by
  have e : (word (plN (gd fs j))).toNat = plN (gd fs j) := by rw [word_toNat]; exact Nat.mod_eq_of_lt (plN_lt _)
  unfold fsB
  rw [List.take_succ_eq_append_getElem h, ← gd_lt h, List.map_append, List.map_cons, List.map_nil, bytesL_snoc, e]
def fivB (b : List UInt8) (xs : List Nat) (j : Nat) : List UInt8 := b ++ (xs.take j).flatMap fun v => leB 1 v
theorem fivB_next {b : List UInt8} {xs : List Nat} {j : Nat} (h : j < xs.length) : fivB b xs (j + 1) = fivB b xs j ++ leB 1 xs[j] := by
  unfold fivB
  rw [List.take_succ_eq_append_getElem h, List.flatMap_append, List.append_assoc]
  simp
theorem fivB_len (b : List UInt8) (xs : List Nat) (j : Nat) : (fivB b xs j).length ≤ b.length + xs.length := by
  unfold fivB
  have h : ∀ l : List Nat, (l.flatMap fun v => leB 1 v).length = l.length := by
    intro l; induction l with
    | nil => rfl
    | cons a l ih => rw [List.flatMap_cons, List.length_append, leB_len, ih, List.length_cons]; omega
  rw [List.length_append, h, List.length_take]; omega
theorem mids_row (w : World) (o : Obj) : Row ((w.alloc o).alloc (.cells #[.int .u8 77, .int .u8 73, .int .u8 68, .int .u8 83] 5 (4, 5))) (w.heap.size + 1 + 1) (some ⟨w.heap.size + 1, 0, none⟩) 4 4 (cs8 mids) := by
  have h := row_lit (w.alloc o) #[.int .u8 77, .int .u8 73, .int .u8 68, .int .u8 83] 5 (4, 5) 4 rfl (by unfold maxLen; omega) (cs8 mids) rfl
  rwa [show (w.alloc o).heap.size = w.heap.size + 1 by simp] at h
theorem rLaid11_any (K : IV) (w : World) (hK : Held w w.heap.size K) (hF : Fit K.m) :
    Calls Tryz.prog 30 #[.agg #[.int .u32 K.v, .int .u32 K.f, .int .i64 K.e, .int .i64 K.s, .int .i64 K.o, .int .i64 K.n, .int .i64 K.i, .int .i64 K.u, .slice K.fA K.fn K.fc, .slice K.sA K.sn K.sc, .slice K.mA K.mn K.mc, .int .i64 K.x, .int .i64 K.y]] w (LayPost w.heap.size w (encM K.m)) := by
  have hst := hK.st
  have hmv := hK.mv
  have hfs := hK.fs
  have hfl := row_len hfs
  have hwf := hK.wf.fs
  obtain ⟨v, f, e, s, o, n, i, u, x, y, fs, st, mv, fA, fn, fc, sA, sn, sc, mA, mn, mc⟩ := K
  simp only at hst hmv hfs hfl ⊢
  have h1 := hF.ver
  have h2 := hF.frm
  have h3 := hF.el
  have h4 := hF.s
  have h5 := hF.n
  have h6 := hF.i
  have h7 := hF.u
  have h8 := hF.sf
  have h9 := hF.mf
  have hS := hF.st
  have hM := hF.mv
  have hFn := hF.fs
  simp only [IV.m] at h1 h2 h3 h4 h5 h6 h7 h8 h9 hS hM hFn hwf ⊢
  obtain ⟨v, rfl⟩ := Int.eq_ofNat_of_zero_le h1.1
  obtain ⟨f, rfl⟩ := Int.eq_ofNat_of_zero_le h2.1
  obtain ⟨e, rfl⟩ := Int.eq_ofNat_of_zero_le h3.1
  obtain ⟨s, rfl⟩ := Int.eq_ofNat_of_zero_le h4.1
  obtain ⟨n, rfl⟩ := Int.eq_ofNat_of_zero_le h5.1
  obtain ⟨i, rfl⟩ := Int.eq_ofNat_of_zero_le h6.1
  obtain ⟨u, rfl⟩ := Int.eq_ofNat_of_zero_le h7.1
  obtain ⟨x, rfl⟩ := Int.eq_ofNat_of_zero_le h8.1
  obtain ⟨y, rfl⟩ := Int.eq_ofNat_of_zero_le h9.1
  replace h1 : v < 4294967296 := by omega
  replace h2 : f < 4294967296 := by omega
  replace h3 : e < 256 := by omega
  replace h4 : s < 256 := by omega
  replace h5 : n < 256 := by omega
  replace h6 : i < 256 := by omega
  replace h7 : u < 256 := by omega
  replace h8 : x < 65536 := by omega
  replace h9 : y < 65536 := by omega
  obtain rfl : fn = fs.length := hfl.symm
  have HS := hide hS
  have HM := hide hM
  have HW := hide hwf
  clear hS hM hF hK hwf
  have kc := fun (o : Obj) => conv_two w o #[.int .u8 77, .int .u8 73, .int .u8 68, .int .u8 83] 4 4
  go_enter Tryz.func30, Tryz.ntmps30
  go_wp2_with fail
  have hm := mids_row w (.cells #[.int .u32 (v : Int), .int .u32 (f : Int), .int .i64 (e : Int), .int .i64 (s : Int), .int .i64 o, .int .i64 (n : Int), .int .i64 (i : Int), .int .i64 (u : Int), .slice fA fs.length fc, .slice sA sn sc, .slice mA mn mc, .int .i64 (x : Int), .int .i64 (y : Int)] 28)
  have bQ := (Blk.new w 28 [.int .u32 (v : Int), .int .u32 (f : Int), .int .i64 (e : Int), .int .i64 (s : Int), .int .i64 o, .int .i64 (n : Int), .int .i64 (i : Int), .int .i64 (u : Int), .slice fA fs.length fc, .slice sA sn sc, .slice mA mn mc, .int .i64 (x : Int), .int .i64 (y : Int)]).alloc (.cells #[.int .u8 77, .int .u8 73, .int .u8 68, .int .u8 83] 5 (4, 5))
  have hb := two_below w (.cells #[.int .u32 (v : Int), .int .u32 (f : Int), .int .i64 (e : Int), .int .i64 (s : Int), .int .i64 o, .int .i64 (n : Int), .int .i64 (i : Int), .int .i64 (u : Int), .slice fA fs.length fc, .slice sA sn sc, .slice mA mn mc, .int .i64 (x : Int), .int .i64 (y : Int)] 28) (.cells #[.int .u8 77, .int .u8 73, .int .u8 68, .int .u8 83] 5 (4, 5))
  have hsz : ((w.alloc (.cells #[.int .u32 (v : Int), .int .u32 (f : Int), .int .i64 (e : Int), .int .i64 (s : Int), .int .i64 o, .int .i64 (n : Int), .int .i64 (i : Int), .int .i64 (u : Int), .slice fA fs.length fc, .slice sA sn sc, .slice mA mn mc, .int .i64 (x : Int), .int .i64 (y : Int)] 28)).alloc (.cells #[.int .u8 77, .int .u8 73, .int .u8 68, .int .u8 83] 5 (4, 5))).heap.size = w.heap.size + 1 + 1 := by simp
  clear kc
  generalize (w.alloc (.cells #[.int .u32 (v : Int), .int .u32 (f : Int), .int .i64 (e : Int), .int .i64 (s : Int), .int .i64 o, .int .i64 (n : Int), .int .i64 (i : Int), .int .i64 (u : Int), .slice fA fs.length fc, .slice sA sn sc, .slice mA mn mc, .int .i64 (x : Int), .int .i64 (y : Int)] 28)).alloc (.cells #[.int .u8 77, .int .u8 73, .int .u8 68, .int .u8 83] 5 (4, 5)) = w1 at hm bQ hb hsz ⊢
  have HZ := hide hsz
  clear hsz
  refine (rNumber_any _ 4 v _ _ _ 4 4 mids w1 hm (by rw [HZ.out]; exact Nat.le_refl _) (by omega) rfl rfl (by omega) (Nat.lt_of_lt_of_eq h1 (by decide)) (by omega)).mono ?_
  rintro e' w2 ⟨A2, n2, c2, rfl, o2, q2⟩
  have r2_ := Row.of_own o2
  have bQ2 := bQ.keep q2 bQ.lt
  have hb2 := hb.trans (q2.mono hb.size)
  have hn2 : n2 ≤ 1000 := by have := own8_len o2; simp only [List.length_append, leB_len, show mids.length = 4 from rfl] at this; omega
  clear bQ hb o2 q2 hm
  obtain ⟨k0, k1, k2, k3, k4, k5, k6, k7, k8, k9, k10, k11, k12⟩ := cells13 bQ2
  go_wp2_with fail
  clear k0 k1 k2 k3 k4 k5 k6 k7 k8 k9 k10 k11 k12
  refine (rNumber_any _ 4 f _ _ _ _ _ _ w2 r2_ (Nat.le_refl _) (by omega) rfl rfl (by omega) (Nat.lt_of_lt_of_eq h2 (by decide)) (by omega)).mono ?_
  rintro e' w3 ⟨A3, n3, c3, rfl, o3, q3⟩
  have r3_ := Row.of_own o3
  have bQ3 := bQ2.keep q3 bQ2.lt
  have hb3 := hb2.trans (q3.mono hb2.size)
  have hn3 : n3 ≤ 1000 := by have := own8_len o3; simp only [List.length_append, leB_len, show mids.length = 4 from rfl] at this; omega
  clear bQ2 hb2 o3 q3 r2_ hn2
  obtain ⟨k0, k1, k2, k3, k4, k5, k6, k7, k8, k9, k10, k11, k12⟩ := cells13 bQ3
  have lq3 := bQ3.lt
  go_wp2_with fail
  clear k0 k1 k2 k3 k4 k5 k6 k7 k8 k9 k10 k11 k12 lq3
  have bL := Blk.new w3 3 (csN [e, s, n, i, u])
  have qL := below_box w3 (.cells #[.int .i64 (e : Int), .int .i64 (s : Int), .int .i64 (n : Int), .int .i64 (i : Int), .int .i64 (u : Int)] 3)
  replace bL : Blk (w3.alloc (.cells #[.int .i64 (e : Int), .int .i64 (s : Int), .int .i64 (n : Int), .int .i64 (i : Int), .int .i64 (u : Int)] 3)) w3.heap.size 3 (csN [e, s, n, i, u]) := bL
  have bQ4 := bQ3.keep qL bQ3.lt
  have hb4 := hb3.trans (qL.mono hb3.size)
  have r4_ := (r3_.keep qL (Nat.le_refl _)).more qL.size
  have lL := bL.lt
  clear bQ3 hb3 qL r3_
  generalize w3.heap.size = g5 at bL lL ⊢
  generalize w3.alloc (.cells #[.int .i64 (e : Int), .int .i64 (s : Int), .int .i64 (n : Int), .int .i64 (i : Int), .int .i64 (u : Int)] 3) = w4 at bL lL bQ4 hb4 r4_ ⊢
  obtain ⟨base, hbase⟩ : ∃ b, b = mids ++ leB 4 v ++ leB 4 f := ⟨_, rfl⟩
  obtain ⟨xs, hxs⟩ : ∃ l, l = [e, s, n, i, u] := ⟨_, rfl⟩
  have hx5 : xs.length = 5 := by rw [hxs]; rfl
  have hxb : ∀ a ∈ xs, a < 256 := by
    intro a ha; rw [hxs] at ha; simp only [List.mem_cons, List.not_mem_nil, or_false] at ha
    rcases ha with rfl | rfl | rfl | rfl | rfl <;> assumption
  have hbl : base.length = 12 := by rw [hbase]; simp [mids, leB_len]
  rw [← hxs] at bL
  rw [show mids ++ leB 4 v ++ leB 4 f = fivB base xs 0 by rw [← hbase]; simp [fivB]] at r4_
  have HB := hide (And.intro hbase (And.intro hxs (And.intro hx5 (And.intro hxb hbl))))
  have R4 := hide (And.intro r4_ (And.intro bL (And.intro bQ4 hb4)))
  clear hbase hxs hx5 hxb hbl r4_ bL bQ4 hb4
  go_loopw [3, 5] (fun b i wr => ∃ (j : Nat) (A' : Option Addr) (n' c' : Nat), j ≤ 5 ∧ i = .int .i64 (j : Int) ∧ b = .slice A' n' c' ∧ Row wr wr.heap.size A' n' c' (cs8 (fivB base xs j)) ∧ Below w4.heap.size w4 wr) (fun _ i _ => 5 - (intOf i).toNat)
  case atStart => exact ⟨0, _, _, _, Nat.zero_le _, rfl, rfl, R4.out.1, Below.refl _ _⟩
  case round =>
    obtain ⟨j, A', n', c', hj, rfl, rfl, hrow, hbw⟩ := hrel
    have hlen := hrow.len
    rw [cs8_len] at hlen
    have hle := fivB_len base xs j
    have hn' : n' ≤ 1000 := by have := HB.out.2.2.1; have := HB.out.2.2.2.2; omega
    clear hlen hle
    by_cases hlt : j < 5
    · have hjx : j < xs.length := by have := HB.out.2.2.1; omega
      have HE := hide (fivB_next (b := base) hjx)
      have ha := HB.out.2.2.2.1 xs[j] (List.getElem_mem hjx)
      have hc := (R4.out.2.1.keep hbw lL).cell (csN_at hjx)
      generalize xs[j] = a at HE ha hc
      clear hjx
      go_wp2_with fail
      refine (rNumber_any _ 1 a _ _ _ _ _ _ wr hrow (Nat.le_refl _) (by omega) rfl rfl (by omega) (Nat.lt_of_lt_of_eq ha (by decide)) (by omega)).mono ?_
      rintro e' wx ⟨Ax, nx, cx, rfl, ox, qx⟩
      go_wp2
      go_roundw
      case rel => exact ⟨j + 1, Ax, nx, cx, by omega, by go_num, rfl, by rw [HE.out]; exact Row.of_own ox, hbw.trans (qx.mono hbw.size)⟩
      case measure => simp [intOf]; omega
    · obtain rfl : 5 = j := by omega
      have hb5 := R4.out.2.2.2.trans (hbw.mono R4.out.2.2.2.size)
      have bQ5 := R4.out.2.2.1.keep hbw R4.out.2.2.1.lt
      clear hbw
      obtain ⟨k0, k1, k2, k3, k4, k5, k6, k7, k8, k9, k10, k11, k12⟩ := cells13 bQ5
      have lq := bQ5.lt
      go_wp2_with fail
      clear k0 k1 k2 k3 k4 k5 k6 k7 k8 k9 k10 k11 k12 lq
      refine (rNumber_any _ 2 x _ _ _ _ _ _ wr hrow (Nat.le_refl _) (by omega) rfl rfl (by omega) (Nat.lt_of_lt_of_eq h8 (by decide)) (by omega)).mono ?_
      rintro e' w6 ⟨A6, n6, c6, rfl, o6, q6⟩
      have r6_ := Row.of_own o6
      have bQ6 := bQ5.keep q6 bQ5.lt
      have hb6 := hb5.trans (q6.mono hb5.size)
      have hn6 : n6 ≤ 1100 := by have h := own8_len o6; have h' := hrow.len; rw [cs8_len] at h'; simp only [List.length_append, leB_len] at h; omega
      clear bQ5 hb5 o6 q6 hrow
      obtain ⟨k0, k1, k2, k3, k4, k5, k6, k7, k8, k9, k10, k11, k12⟩ := cells13 bQ6
      have lq := bQ6.lt
      go_wp2_with fail
      clear k0 k1 k2 k3 k4 k5 k6 k7 k8 k9 k10 k11 k12 lq
      refine (rNumber_any _ 2 y _ _ _ _ _ _ w6 r6_ (Nat.le_refl _) (by omega) rfl rfl (by omega) (Nat.lt_of_lt_of_eq h9 (by decide)) (by omega)).mono ?_
      rintro e' w7 ⟨A7, n7, c7, rfl, o7, q7⟩
      have r7_ := Row.of_own o7
      have bQ7 := bQ6.keep q7 bQ6.lt
      have hb7 := hb6.trans (q7.mono hb6.size)
      clear bQ6 hb6 o7 q7 r6_
      rw [show fivB base xs 5 ++ leB 2 x ++ leB 2 y = hdrM ⟨v, f, e, ⟨s, o, n, i, u⟩, fs, st, mv, x, y⟩ by rw [HB.out.1, HB.out.2.1]; simp [fivB, hdrM, List.append_assoc]] at r7_
      obtain ⟨L9, hL9⟩ : ∃ L, hdrM ⟨v, f, e, ⟨s, o, n, i, u⟩, fs, st, mv, x, y⟩ = L := ⟨_, rfl⟩
      have hl9 := hdr_len ⟨v, f, e, ⟨s, o, n, i, u⟩, fs, st, mv, x, y⟩
      rw [hL9] at r7_ hl9
      have HL9 := hide hL9
      have HN9 := hide hl9
      have R7 := hide (And.intro r7_ (And.intro bQ7 hb7))
      clear hL9 hl9 r7_ bQ7 hb7 R4 HB
      obtain ⟨k0, k1, k2, k3, k4, k5, k6, k7, k8, k9, k10, k11, k12⟩ := cells13 R7.out.2.1
      have lq := R7.out.2.1.lt
      go_wp2_with fail
      clear k0 k1 k2 k3 k4 k5 k6 k7 k8 k9 k10 k11 k12 lq
      go_loopw [6, 7] (fun b i wr => ∃ (j : Nat) (A' : Option Addr) (n' c' : Nat), j ≤ fs.length ∧ i = .int .i64 (j : Int) ∧ b = .slice A' n' c' ∧ Row wr wr.heap.size A' n' c' (cs8 (fsB (fs.take j))) ∧ Below w7.heap.size w7 wr) (fun _ i _ => fs.length - (intOf i).toNat)
      case atStart => exact ⟨0, _, _, _, Nat.zero_le _, rfl, rfl, by simpa [fsB, bytesL, cs8] using Row.none_, Below.refl _ _⟩
      case round =>
        obtain ⟨j, A', n', c', hj, rfl, rfl, hrow, hbw⟩ := hrel
        have hlen := hrow.len
        rw [cs8_len, fsB_len, List.length_take] at hlen
        have hn' : n' ≤ 2400 := by omega
        clear hlen
        have bQ8 := R7.out.2.1.keep hbw R7.out.2.1.lt
        have hb8 := R7.out.2.2.trans (hbw.mono R7.out.2.2.size)
        have k8_ := bQ8.cell (j := 8) rfl
        have lq := bQ8.lt
        by_cases hlt : j < fs.length
        · have HE := hide (fsB_next hlt)
          obtain ⟨b, o', u', rfl, _, hu, hcell⟩ := (hfs.keep hb8 (Nat.le_refl _)).get hlt
          rw [c32_at hlt] at hu
          obtain rfl := Option.some.inj hu
          clear hu
          have hok := HW.out (gd fs j) (by rw [gd_lt hlt]; exact List.getElem_mem hlt)
          generalize gd fs j = a at HE hok hcell
          obtain ⟨p, hp⟩ : ∃ p, plN a = p := ⟨_, rfl⟩
          have hp4 := plN_lt a
          rw [hp] at HE hp4
          have HP := hide hp
          clear hp
          unfold ok32 at hok
          have HO := hide hok
          have HALL := hide (And.intro bQ8 hb8)
          clear hok bQ8 hb8
          go_wp2_with fail
          refine (rPlain_p a wr HO.out p HP.out).mono ?_
          rintro e' w' ⟨rfl, rfl⟩
          go_wp2_with fail
          refine (rNumber_any _ 4 p _ _ _ _ _ _ wr hrow (Nat.le_refl _) (by omega) rfl rfl (by omega) (Nat.lt_of_lt_of_eq hp4 (by decide)) (by omega)).mono ?_
          rintro e' wx ⟨Ax, nx, cx, rfl, ox, qx⟩
          go_wp2
          go_roundw
          case rel => exact ⟨j + 1, Ax, nx, cx, by omega, by go_num, rfl, by rw [HE.out]; exact Row.of_own ox, hbw.trans (qx.mono hbw.size)⟩
          case measure => simp [intOf]; omega
        · obtain rfl : fs.length = j := by omega
          rw [List.take_length] at hrow
          have r7b := (R7.out.1.keep hbw (Nat.le_refl _)).more hbw.size
          have h72 := hrow.len
          clear hbw k8_
          obtain ⟨k0, k1, k2, k3, k4, k5, k6, k7, k8, k9, k10, k11, k12⟩ := cells13 bQ8
          have HX := hide (And.intro hrow r7b)
          clear hrow r7b R7 h72
          go_wp2_with fail
          clear k0 k1 k2 k3 k4 k5 k6 k7 k8 k9 k10 k11 k12 lq
          refine (rEncode_any w.heap.size sA sn sc st wr (hst.keep hb8 (Nat.le_refl _)) hb8.size).mono ?_
          rw [HS.out]
          rintro e' w9 ⟨A9, n9, c9, rfl, o9, q9⟩
          have bQ9 := bQ8.keep q9 bQ8.lt
          have hb9 := hb8.trans (q9.mono hb8.size)
          have x1 := (HX.out.1.keep q9 (Nat.le_refl _)).more q9.size
          have x2 := (HX.out.2.keep q9 (Nat.le_refl _)).more q9.size
          have x3 := Row.of_own o9
          have HY := hide (And.intro x1 (And.intro x2 x3))
          clear x1 x2 x3 bQ8 hb8 o9 q9 HX
          obtain ⟨k0, k1, k2, k3, k4, k5, k6, k7, k8, k9, k10, k11, k12⟩ := cells13 bQ9
          have lq := bQ9.lt
          go_wp2_with fail
          clear k0 k1 k2 k3 k4 k5 k6 k7 k8 k9 k10 k11 k12 lq
          refine (rEncode_any w.heap.size mA mn mc mv w9 (hmv.keep hb9 (Nat.le_refl _)) hb9.size).mono ?_
          rw [HM.out]
          rintro e' w10 ⟨A10, n10, c10, rfl, o10, q10⟩
          have hb10 := hb9.trans (q10.mono hb9.size)
          have x1 := (HY.out.1.keep q10 (Nat.le_refl _)).more q10.size
          have x2 := (HY.out.2.1.keep q10 (Nat.le_refl _)).more q10.size
          have x3 := (HY.out.2.2.keep q10 (Nat.le_refl _)).more q10.size
          have x4 := Row.of_own o10
          have HY2 := hide (And.intro x1 (And.intro x2 (And.intro x3 x4)))
          have l7 : n7 ≤ 1000 := by have h := x2.len; rw [cs8_len] at h; have := HN9.out; omega
          clear x1 x2 x3 x4 bQ9 hb9 o10 q10 HY
          go_wp2_with fail
          refine (rRun_any _ A7 n7 c7 _ A' n' c' _ w10 HY2.out.2.1 HY2.out.1 (Nat.le_refl _) (by omega) (by rw [fsB_len]; omega)).mono ?_
          rintro e' w11 ⟨A11, n11, c11, rfl, o11, q11⟩
          have x1 := Row.of_own o11
          have x3 := (HY2.out.2.2.1.keep q11 (Nat.le_refl _)).more q11.size
          have x4 := (HY2.out.2.2.2.keep q11 (Nat.le_refl _)).more q11.size
          have hb11 := hb10.trans (q11.mono hb10.size)
          have l11 : n11 ≤ 10000 := by have h := own8_len o11; simp only [addR, List.length_append, leB_len, fsB_len] at h; have := HN9.out; omega
          have HY3 := hide (And.intro x1 (And.intro x3 x4))
          clear x1 x3 x4 hb10 o11 q11 HY2
          go_wp2_with fail
          refine (rRun_any _ A11 n11 c11 _ A9 n9 c9 _ w11 HY3.out.1 HY3.out.2.1 (Nat.le_refl _) (by omega) (Nat.le_trans (encL_small HS.out) (by decide))).mono ?_
          rintro e' w12 ⟨A12, n12, c12, rfl, o12, q12⟩
          have x1 := Row.of_own o12
          have x4 := (HY3.out.2.2.keep q12 (Nat.le_refl _)).more q12.size
          have hb12 := hb11.trans (q12.mono hb11.size)
          have l12 : n12 ≤ 20000 := by have h := own8_len o12; simp only [addR, List.length_append, leB_len, fsB_len] at h; have := HN9.out; have := encL_small HS.out; omega
          have HY4 := hide (And.intro x1 x4)
          clear x1 x4 hb11 o12 q12 HY3
          go_wp2_with fail
          refine (rRun_any _ A12 n12 c12 _ A10 n10 c10 _ w12 HY4.out.1 HY4.out.2 (Nat.le_refl _) (by omega) (Nat.le_trans (encL_small HM.out) (by decide))).mono ?_
          rintro e' w13 ⟨A13, n13, c13, rfl, o13, q13⟩
          go_wp2
          go_ret
          refine ⟨A13, n13, c13, rfl, ?_, hb12.trans (q13.mono hb12.size)⟩
          unfold encM
          rw [HL9.out]
          exact own_base hb12.size o13

end Go.Proofs.YtdikiabjkmigdaaGreatDoor
namespace Go.Proofs.YtdikiabjkmigdaaGreatDoor
open Go.RowKit
set_option maxRecDepth 20000
set_option maxHeartbeats 2000000

theorem rEncode11_any (K : IV) (w : World) (hK : Held w w.heap.size K) :
    Calls Tryz.prog 15 #[.agg #[.int .u32 K.v, .int .u32 K.f, .int .i64 K.e, .int .i64 K.s, .int .i64 K.o, .int .i64 K.n, .int .i64 K.i, .int .i64 K.u, .slice K.fA K.fn K.fc, .slice K.sA K.sn K.sc, .slice K.mA K.mn K.mc, .int .i64 K.x, .int .i64 K.y]] w (GivesE w (enL K.m) (enE K.m)) := by
  obtain ⟨z, hz⟩ : ∃ z, chkM K.m = z := ⟨_, rfl⟩
  have HZ := hide hz
  by_cases h0 : z = 0
  · subst h0
    have hF := hide (chk_fit hK.wf hz)
    have hfs := chk_zero hz
    have hl : (encM K.m).length ≤ 100000 := by
      have a1 := encL_small hF.out.st
      have a2 := encL_small hF.out.mv
      have a3 := hF.out.fs
      rw [encM_len, fsB_len]; omega
    by_cases hb : 2016 < (encM K.m).length
    · have HE := hide (show enE K.m = 3 by unfold enE; rw [if_neg (by rw [hz]; decide), if_pos hb])
      have HL := hide (show enL K.m = [] by unfold enL; rw [HE.out]; rfl)
      obtain ⟨L, hL⟩ : ∃ L, encM K.m = L := ⟨_, rfl⟩
      rw [hL] at hb hl
      have HB := hide hL
      clear hL hz hfs
      go_enter Tryz.func15, Tryz.ntmps15
      go_wp2_with fail
      refine (rCheck11_any K 0 _ ((hK.keep (below_box w _) (Nat.le_refl _)).more (below_box w _).size) HZ).mono ?_
      rintro e w2 ⟨rfl, hb2⟩
      have bC := (Blk.new w 28 [.int .u32 K.v, .int .u32 K.f, .int .i64 K.e, .int .i64 K.s, .int .i64 K.o, .int .i64 K.n, .int .i64 K.i, .int .i64 K.u, .slice K.fA K.fn K.fc, .slice K.sA K.sn K.sc, .slice K.mA K.mn K.mc, .int .i64 K.x, .int .i64 K.y]).keep hb2 (by simp)
      have hb1 := box_then hb2
      obtain ⟨k0, k1, k2, k3, k4, k5, k6, k7, k8, k9, k10, k11, k12⟩ := cells13 bC
      go_wp2_with fail
      clear k0 k1 k2 k3 k4 k5 k6 k7 k8 k9 k10 k11 k12
      refine (rLaid11_any K w2 ((hK.keep hb1 (Nat.le_refl _)).more hb1.size) hF.out).mono ?_
      rw [HB.out]
      rintro e w3 ⟨A3, n3, c3, rfl, o3, hb3⟩
      have r3 := Row.of_own o3
      have hn3 := r3.len
      rw [cs8_len] at hn3
      have hbig : decide ((2016 : Int) < (n3 : Int)) = true := by simp; omega
      go_wp2
      go_ret2
      exact GivesE.none_ HL.out HE.out (hb1.trans (hb3.mono hb1.size))
    · have HE := hide (show enE K.m = 0 by unfold enE; rw [if_neg (by rw [hz]; decide), if_neg hb])
      have HL := hide (show enL K.m = encM K.m by unfold enL; rw [HE.out]; rfl)
      obtain ⟨L, hL⟩ : ∃ L, encM K.m = L := ⟨_, rfl⟩
      rw [hL] at hb hl
      have HB := hide hL
      clear hL hz hfs
      go_enter Tryz.func15, Tryz.ntmps15
      go_wp2_with fail
      refine (rCheck11_any K 0 _ ((hK.keep (below_box w _) (Nat.le_refl _)).more (below_box w _).size) HZ).mono ?_
      rintro e w2 ⟨rfl, hb2⟩
      have bC := (Blk.new w 28 [.int .u32 K.v, .int .u32 K.f, .int .i64 K.e, .int .i64 K.s, .int .i64 K.o, .int .i64 K.n, .int .i64 K.i, .int .i64 K.u, .slice K.fA K.fn K.fc, .slice K.sA K.sn K.sc, .slice K.mA K.mn K.mc, .int .i64 K.x, .int .i64 K.y]).keep hb2 (by simp)
      have hb1 := box_then hb2
      obtain ⟨k0, k1, k2, k3, k4, k5, k6, k7, k8, k9, k10, k11, k12⟩ := cells13 bC
      go_wp2_with fail
      clear k0 k1 k2 k3 k4 k5 k6 k7 k8 k9 k10 k11 k12
      refine (rLaid11_any K w2 ((hK.keep hb1 (Nat.le_refl _)).more hb1.size) hF.out).mono ?_
      rw [HB.out]
      rintro e w3 ⟨A3, n3, c3, rfl, o3, hb3⟩
      have r3 := Row.of_own o3
      have hn3 := r3.len
      rw [cs8_len] at hn3
      have hsm : decide ((2016 : Int) < (n3 : Int)) = false := by simp; omega
      go_wp2
      go_ret2
      exact ⟨A3, n3, c3, by rw [HE.out]; rfl, by rw [HL.out, HB.out]; exact r3, hb1.trans (hb3.mono hb1.size)⟩
  · have HE := hide (show enE K.m = z by unfold enE; rw [if_pos (by rw [hz]; exact h0)]; exact hz)
    have HL := hide (show enL K.m = [] by unfold enL; rw [if_neg (by rw [HE.out]; exact h0)])
    have g0 : (z == 0) = false := beq_eq_false_iff_ne.2 h0
    have g1 := bne_of g0
    clear hz h0
    go_enter Tryz.func15, Tryz.ntmps15
    go_wp2_with fail
    refine (rCheck11_any K z _ ((hK.keep (below_box w _) (Nat.le_refl _)).more (below_box w _).size) HZ).mono ?_
    rintro e w2 ⟨rfl, hb2⟩
    go_wp2
    go_ret2
    exact GivesE.none_ HL.out HE.out (box_then hb2)

end Go.Proofs.YtdikiabjkmigdaaGreatDoor
