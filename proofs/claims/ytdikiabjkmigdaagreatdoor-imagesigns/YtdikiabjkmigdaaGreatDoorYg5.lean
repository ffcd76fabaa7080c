/-
  Contract of image.decoded: where the letters are right.
-/
import Derived.Test.YtdikiabjkmigdaaGreatDoorYg4
namespace Go.Proofs.YtdikiabjkmigdaaGreatDoor
open Go.RowKit
set_option maxRecDepth 20000
set_option maxHeartbeats 4000000

theorem start_world (w0 w1 : World) (A : Option Addr) (n c B : Nat) (l : List UInt8) (hb : Below w0.heap.size w0 w1) (hsz : w1.heap.size = w0.heap.size + 1 + 1 + 1) (hr : Row w0 B A n c (cs8 l)) (hB : B ≤ w0.heap.size) (bB : Blk w1 w0.heap.size 29 [.slice A n c]) (bZ : Blk w1 (w0.heap.size + 1) 28 [.int .u32 0, .int .u32 0, .int .i64 0, .int .i64 0, .int .i64 0, .int .i64 0, .int .i64 0, .int .i64 0, .slice none 0 0, .slice none 0 0, .slice none 0 0, .int .i64 0, .int .i64 0]) :
    DZ w0 w0.heap.size (w1.heap.size + 1) w1.heap.size (w0.heap.size + 1) (w1.heap.size + 1 + 1) A n c l d0 [.int .u32 0, .int .u32 0, .int .i64 0, .int .i64 0, .int .i64 0, .int .i64 0, .int .i64 0, .int .i64 0, .slice none 0 0, .slice none 0 0, .slice none 0 0, .int .i64 0, .int .i64 0] (((w1.alloc (.cells #[.int .i64 4] 3)).alloc (.cells #[.int .i64 0] 32)).alloc (.cells #[.int .u32 0, .int .u32 0, .int .i64 0, .int .i64 0, .int .i64 0, .int .i64 0, .int .i64 0, .int .i64 0, .slice none 0 0, .slice none 0 0, .slice none 0 0, .int .i64 0, .int .i64 0] 28)) := by
  have b1 := (bB.alloc (.cells #[.int .i64 4] 3)).alloc (.cells #[.int .i64 0] 32)
  have b2 := (bZ.alloc (.cells #[.int .i64 4] 3)).alloc (.cells #[.int .i64 0] 32)
  have b3 := (Blk.new w1 3 [.int .i64 4]).alloc (.cells #[.int .i64 0] 32)
  have b4 : Blk ((w1.alloc (.cells #[.int .i64 4] 3)).alloc (.cells #[.int .i64 0] 32)) (w1.heap.size + 1) 32 [.int .i64 0] := Blk.at _ _ _ (by simp)
  have hb2 := (hb.trans ((two_below w1 (.cells #[.int .i64 4] 3) (.cells #[.int .i64 0] 32)).mono hb.size))
  have hb3 := hb2.alloc hb2.size (.cells #[.int .u32 0, .int .u32 0, .int .i64 0, .int .i64 0, .int .i64 0, .int .i64 0, .int .i64 0, .int .i64 0, .slice none 0 0, .slice none 0 0, .slice none 0 0, .int .i64 0, .int .i64 0] 28)
  have b5 : Blk (((w1.alloc (.cells #[.int .i64 4] 3)).alloc (.cells #[.int .i64 0] 32)).alloc (.cells #[.int .u32 0, .int .u32 0, .int .i64 0, .int .i64 0, .int .i64 0, .int .i64 0, .int .i64 0, .int .i64 0, .slice none 0 0, .slice none 0 0, .slice none 0 0, .int .i64 0, .int .i64 0] 28)) (w1.heap.size + 1 + 1) 28 [.int .u32 0, .int .u32 0, .int .i64 0, .int .i64 0, .int .i64 0, .int .i64 0, .int .i64 0, .int .i64 0, .slice none 0 0, .slice none 0 0, .slice none 0 0, .int .i64 0, .int .i64 0] := Blk.at _ _ _ (by simp)
  refine ⟨⟨by omega, b1.alloc _, b4.alloc _, b3.alloc _, (hr.keep hb3 hB).more hB, by omega⟩, b5, b2.alloc _, hb3, by omega, by omega⟩
theorem img_no {a b c d e f g h i j : Int} {A1 A2 A3 : Option Addr} {n1 n2 n3 m1 m2 m3 : Nat} : ∀ u ∈ [Value.int .u32 a, .int .u32 b, .int .i64 c, .int .i64 d, .int .i64 e, .int .i64 f, .int .i64 g, .int .i64 h, .slice A1 n1 m1, .slice A2 n2 m2, .slice A3 n3 m3, .int .i64 i, .int .i64 j], ∀ v, u ≠ Value.int .u8 v := by
  intro u hu v
  simp only [List.mem_cons, List.not_mem_nil, or_false] at hu
  rcases hu with rfl | rfl | rfl | rfl | rfl | rfl | rfl | rfl | rfl | rfl | rfl | rfl | rfl <;> simp
theorem decoded_main (B : Nat) (A : Option Addr) (n c : Nat) (l : List UInt8) (w : World) (hr : Row w B A n c (cs8 l)) (hB : B ≤ w.heap.size) (hn : n ≤ 100000) (hh : l.take 4 = mids) :
    Calls Tryz.prog 23 #[.slice A n c] w (GivesM w (decM l) (decE l)) := by
  have hlen := hr.len
  rw [cs8_len] at hlen
  have HLEN := hide hlen
  have kc := fun (o o2 : Obj) => conv_three w o o2 #[.int .u8 77, .int .u8 73, .int .u8 68, .int .u8 83] 4 4
  have HH := hide (decide_eq_true hh)
  have HT := hide hh
  clear hh hlen
  go_enter Tryz.func23, Tryz.ntmps23
  go_wp2_with fail
  obtain ⟨hb, hm, bB, bZ, hsz⟩ := head_world w A n c
  have HB := hide (And.intro hb (And.intro bZ bB))
  have HZ := hide hsz
  clear kc
  refine (HasPrefix_mids B (w.heap.size + 1 + 1 + 1) A _ n c 4 l _ true (hr.keep hb hB) hm HH.out).mono ?_
  rintro e' w' ⟨rfl, rfl⟩
  clear hb hm bB hsz bZ
  generalize ((w.alloc (.cells #[.slice A n c] 29)).alloc (.cells #[.int .u32 0, .int .u32 0, .int .i64 0, .int .i64 0, .int .i64 0, .int .i64 0, .int .i64 0, .int .i64 0, .slice none 0 0, .slice none 0 0, .slice none 0 0, .int .i64 0, .int .i64 0] 28)).alloc (.cells #[.int .u8 77, .int .u8 73, .int .u8 68, .int .u8 83] 5 (4, 5)) = w1 at HB HZ ⊢
  go_wp2_with fail
  have N0 := start_world w w1 A n c B l HB.out.1 HZ.out hr hB HB.out.2.2 HB.out.2.1
  generalize ((w1.alloc (.cells #[.int .i64 4] 3)).alloc (.cells #[.int .i64 0] 32)).alloc (.cells #[.int .u32 0, .int .u32 0, .int .i64 0, .int .i64 0, .int .i64 0, .int .i64 0, .int .i64 0, .int .i64 0, .slice none 0 0, .slice none 0 0, .slice none 0 0, .int .i64 0, .int .i64 0] 28) = w2 at N0 ⊢
  generalize w1.heap.size + 1 + 1 = q8 at N0 ⊢
  generalize w1.heap.size + 1 = ge at N0 ⊢
  generalize w1.heap.size = ga at N0 ⊢
  have BD := hide (d_bd l)
  clear HB HZ hr
  obtain ⟨v1, hv1⟩ : ∃ v, val l d0 4 = v := ⟨_, rfl⟩
  have bv1 : v1 ≤ 4294967295 := by have := val_lt l d0 4; rw [hv1] at this; omega
  have Hv1 := hide hv1
  clear hv1
  refine (getNum_any w.heap.size w.heap.size ge ga n c 4 _ A l d0 w2 N0.ds rfl (by omega) ⟨by decide, by decide⟩).mono ?_
  rw [Hv1.out]
  rintro e' w3 ⟨rfl, o1, kk⟩
  have M1 : DZ w w.heap.size ge ga (w.heap.size + 1) q8 A n c l (d1 l) [.int .u32 0, .int .u32 0, .int .i64 0, .int .i64 0, .int .i64 0, .int .i64 0, .int .i64 0, .int .i64 0, .slice none 0 0, .slice none 0 0, .slice none 0 0, .int .i64 0, .int .i64 0] w3 := N0.num kk o1
  obtain ⟨k0, k1, k2, k3, k4, k5, k6, k7, k8, k9, k10, k11, k12⟩ := cells13 M1.m
  have fM := fun j => M1.m.frozen j
  have lM := M1.m.lt
  clear o1 kk N0
  have MM := hide M1
  clear M1
  go_wp2_with fail
  clear k0 k1 k2 k3 k4 k5 k6 k7 k8 k9 k10 k11 k12 fM lM
  have N1 : DZ w w.heap.size ge ga (w.heap.size + 1) q8 A n c l (d1 l) [.int .u32 (v1 : Int), .int .u32 0, .int .i64 0, .int .i64 0, .int .i64 0, .int .i64 0, .int .i64 0, .int .i64 0, .slice none 0 0, .slice none 0 0, .slice none 0 0, .int .i64 0, .int .i64 0] _ := MM.out.put 0 (.int .u32 (v1 : Int))
  generalize w3.setCell ⟨q8, 0, none⟩ (.int .u32 (v1 : Int)) = w4 at N1 ⊢
  clear MM
  obtain ⟨v2, hv2⟩ : ∃ v, val l (d1 l) 4 = v := ⟨_, rfl⟩
  have bv2 : v2 ≤ 4294967295 := by have := val_lt l (d1 l) 4; rw [hv2] at this; omega
  have Hv2 := hide hv2
  clear hv2
  refine (getNum_any w.heap.size w.heap.size ge ga n c 4 _ A l (d1 l) w4 N1.ds rfl (by omega) (by have := BD.out; omega)).mono ?_
  rw [Hv2.out]
  rintro e' w5 ⟨rfl, o1, kk⟩
  have M2 : DZ w w.heap.size ge ga (w.heap.size + 1) q8 A n c l (d2 l) [.int .u32 (v1 : Int), .int .u32 0, .int .i64 0, .int .i64 0, .int .i64 0, .int .i64 0, .int .i64 0, .int .i64 0, .slice none 0 0, .slice none 0 0, .slice none 0 0, .int .i64 0, .int .i64 0] w5 := N1.num kk o1
  obtain ⟨k0, k1, k2, k3, k4, k5, k6, k7, k8, k9, k10, k11, k12⟩ := cells13 M2.m
  have fM := fun j => M2.m.frozen j
  have lM := M2.m.lt
  clear o1 kk N1
  have MM := hide M2
  clear M2
  go_wp2_with fail
  clear k0 k1 k2 k3 k4 k5 k6 k7 k8 k9 k10 k11 k12 fM lM
  have N2 : DZ w w.heap.size ge ga (w.heap.size + 1) q8 A n c l (d2 l) [.int .u32 (v1 : Int), .int .u32 (v2 : Int), .int .i64 0, .int .i64 0, .int .i64 0, .int .i64 0, .int .i64 0, .int .i64 0, .slice none 0 0, .slice none 0 0, .slice none 0 0, .int .i64 0, .int .i64 0] _ := MM.out.put 1 (.int .u32 (v2 : Int))
  generalize w5.setCell ⟨q8, 1, none⟩ (.int .u32 (v2 : Int)) = w6 at N2 ⊢
  clear MM
  obtain ⟨v3, hv3⟩ : ∃ v, val l (d2 l) 1 = v := ⟨_, rfl⟩
  have bv3 : v3 ≤ 255 := by have := val_lt l (d2 l) 1; rw [hv3] at this; omega
  have Hv3 := hide hv3
  clear hv3
  refine (getNum_any w.heap.size w.heap.size ge ga n c 1 _ A l (d2 l) w6 N2.ds rfl (by omega) (by have := BD.out; omega)).mono ?_
  rw [Hv3.out]
  rintro e' w7 ⟨rfl, o1, kk⟩
  have M3 : DZ w w.heap.size ge ga (w.heap.size + 1) q8 A n c l (d3 l) [.int .u32 (v1 : Int), .int .u32 (v2 : Int), .int .i64 0, .int .i64 0, .int .i64 0, .int .i64 0, .int .i64 0, .int .i64 0, .slice none 0 0, .slice none 0 0, .slice none 0 0, .int .i64 0, .int .i64 0] w7 := N2.num kk o1
  obtain ⟨k0, k1, k2, k3, k4, k5, k6, k7, k8, k9, k10, k11, k12⟩ := cells13 M3.m
  have fM := fun j => M3.m.frozen j
  have lM := M3.m.lt
  clear o1 kk N2
  have MM := hide M3
  clear M3
  go_wp2_with fail
  clear k0 k1 k2 k3 k4 k5 k6 k7 k8 k9 k10 k11 k12 fM lM
  have N3 : DZ w w.heap.size ge ga (w.heap.size + 1) q8 A n c l (d3 l) [.int .u32 (v1 : Int), .int .u32 (v2 : Int), .int .i64 (v3 : Int), .int .i64 0, .int .i64 0, .int .i64 0, .int .i64 0, .int .i64 0, .slice none 0 0, .slice none 0 0, .slice none 0 0, .int .i64 0, .int .i64 0] _ := MM.out.put 2 (.int .i64 (v3 : Int))
  generalize w7.setCell ⟨q8, 2, none⟩ (.int .i64 (v3 : Int)) = w8 at N3 ⊢
  clear MM
  obtain ⟨v4, hv4⟩ : ∃ v, val l (d3 l) 1 = v := ⟨_, rfl⟩
  have bv4 : v4 ≤ 255 := by have := val_lt l (d3 l) 1; rw [hv4] at this; omega
  have Hv4 := hide hv4
  clear hv4
  refine (getNum_any w.heap.size w.heap.size ge ga n c 1 _ A l (d3 l) w8 N3.ds rfl (by omega) (by have := BD.out; omega)).mono ?_
  rw [Hv4.out]
  rintro e' w9 ⟨rfl, o1, kk⟩
  have M4 : DZ w w.heap.size ge ga (w.heap.size + 1) q8 A n c l (d4 l) [.int .u32 (v1 : Int), .int .u32 (v2 : Int), .int .i64 (v3 : Int), .int .i64 0, .int .i64 0, .int .i64 0, .int .i64 0, .int .i64 0, .slice none 0 0, .slice none 0 0, .slice none 0 0, .int .i64 0, .int .i64 0] w9 := N3.num kk o1
  obtain ⟨k0, k1, k2, k3, k4, k5, k6, k7, k8, k9, k10, k11, k12⟩ := cells13 M4.m
  have fM := fun j => M4.m.frozen j
  have lM := M4.m.lt
  clear o1 kk N3
  have MM := hide M4
  clear M4
  go_wp2_with fail
  clear k0 k1 k2 k3 k4 k5 k6 k7 k8 k9 k10 k11 k12 fM lM
  have N4 : DZ w w.heap.size ge ga (w.heap.size + 1) q8 A n c l (d4 l) [.int .u32 (v1 : Int), .int .u32 (v2 : Int), .int .i64 (v3 : Int), .int .i64 (v4 : Int), .int .i64 0, .int .i64 0, .int .i64 0, .int .i64 0, .slice none 0 0, .slice none 0 0, .slice none 0 0, .int .i64 0, .int .i64 0] _ := MM.out.put 3 (.int .i64 (v4 : Int))
  generalize w9.setCell ⟨q8, 3, none⟩ (.int .i64 (v4 : Int)) = w10 at N4 ⊢
  clear MM
  obtain ⟨v5, hv5⟩ : ∃ v, val l (d4 l) 1 = v := ⟨_, rfl⟩
  have bv5 : v5 ≤ 255 := by have := val_lt l (d4 l) 1; rw [hv5] at this; omega
  have Hv5 := hide hv5
  clear hv5
  refine (getNum_any w.heap.size w.heap.size ge ga n c 1 _ A l (d4 l) w10 N4.ds rfl (by omega) (by have := BD.out; omega)).mono ?_
  rw [Hv5.out]
  rintro e' w11 ⟨rfl, o1, kk⟩
  have M5 : DZ w w.heap.size ge ga (w.heap.size + 1) q8 A n c l (d5 l) [.int .u32 (v1 : Int), .int .u32 (v2 : Int), .int .i64 (v3 : Int), .int .i64 (v4 : Int), .int .i64 0, .int .i64 0, .int .i64 0, .int .i64 0, .slice none 0 0, .slice none 0 0, .slice none 0 0, .int .i64 0, .int .i64 0] w11 := N4.num kk o1
  obtain ⟨k0, k1, k2, k3, k4, k5, k6, k7, k8, k9, k10, k11, k12⟩ := cells13 M5.m
  have fM := fun j => M5.m.frozen j
  have lM := M5.m.lt
  clear o1 kk N4
  have MM := hide M5
  clear M5
  go_wp2_with fail
  clear k0 k1 k2 k3 k4 k5 k6 k7 k8 k9 k10 k11 k12 fM lM
  have N5a : DZ w w.heap.size ge ga (w.heap.size + 1) q8 A n c l (d5 l) [.int .u32 (v1 : Int), .int .u32 (v2 : Int), .int .i64 (v3 : Int), .int .i64 (v4 : Int), .int .i64 0, .int .i64 (v5 : Int), .int .i64 0, .int .i64 0, .slice none 0 0, .slice none 0 0, .slice none 0 0, .int .i64 0, .int .i64 0] _ := MM.out.put 5 (.int .i64 (v5 : Int))
  have N5 : DZ w w.heap.size ge ga (w.heap.size + 1) q8 A n c l (d5 l) [.int .u32 (v1 : Int), .int .u32 (v2 : Int), .int .i64 (v3 : Int), .int .i64 (v4 : Int), .int .i64 (v5 : Int), .int .i64 (v5 : Int), .int .i64 0, .int .i64 0, .slice none 0 0, .slice none 0 0, .slice none 0 0, .int .i64 0, .int .i64 0] _ := N5a.put 4 (.int .i64 (v5 : Int))
  generalize (w11.setCell ⟨q8, 5, none⟩ (.int .i64 (v5 : Int))).setCell ⟨q8, 4, none⟩ (.int .i64 (v5 : Int)) = w12 at N5 ⊢
  clear MM N5a
  obtain ⟨v6, hv6⟩ : ∃ v, val l (d5 l) 1 = v := ⟨_, rfl⟩
  have bv6 : v6 ≤ 255 := by have := val_lt l (d5 l) 1; rw [hv6] at this; omega
  have Hv6 := hide hv6
  clear hv6
  refine (getNum_any w.heap.size w.heap.size ge ga n c 1 _ A l (d5 l) w12 N5.ds rfl (by omega) (by have := BD.out; omega)).mono ?_
  rw [Hv6.out]
  rintro e' w13 ⟨rfl, o1, kk⟩
  have M6 : DZ w w.heap.size ge ga (w.heap.size + 1) q8 A n c l (d6 l) [.int .u32 (v1 : Int), .int .u32 (v2 : Int), .int .i64 (v3 : Int), .int .i64 (v4 : Int), .int .i64 (v5 : Int), .int .i64 (v5 : Int), .int .i64 0, .int .i64 0, .slice none 0 0, .slice none 0 0, .slice none 0 0, .int .i64 0, .int .i64 0] w13 := N5.num kk o1
  obtain ⟨k0, k1, k2, k3, k4, k5, k6, k7, k8, k9, k10, k11, k12⟩ := cells13 M6.m
  have fM := fun j => M6.m.frozen j
  have lM := M6.m.lt
  clear o1 kk N5
  have MM := hide M6
  clear M6
  go_wp2_with fail
  clear k0 k1 k2 k3 k4 k5 k6 k7 k8 k9 k10 k11 k12 fM lM
  have N6 : DZ w w.heap.size ge ga (w.heap.size + 1) q8 A n c l (d6 l) [.int .u32 (v1 : Int), .int .u32 (v2 : Int), .int .i64 (v3 : Int), .int .i64 (v4 : Int), .int .i64 (v5 : Int), .int .i64 (v5 : Int), .int .i64 (v6 : Int), .int .i64 0, .slice none 0 0, .slice none 0 0, .slice none 0 0, .int .i64 0, .int .i64 0] _ := MM.out.put 6 (.int .i64 (v6 : Int))
  generalize w13.setCell ⟨q8, 6, none⟩ (.int .i64 (v6 : Int)) = w14 at N6 ⊢
  clear MM
  obtain ⟨v7, hv7⟩ : ∃ v, val l (d6 l) 1 = v := ⟨_, rfl⟩
  have bv7 : v7 ≤ 255 := by have := val_lt l (d6 l) 1; rw [hv7] at this; omega
  have Hv7 := hide hv7
  clear hv7
  refine (getNum_any w.heap.size w.heap.size ge ga n c 1 _ A l (d6 l) w14 N6.ds rfl (by omega) (by have := BD.out; omega)).mono ?_
  rw [Hv7.out]
  rintro e' w15 ⟨rfl, o1, kk⟩
  have M7 : DZ w w.heap.size ge ga (w.heap.size + 1) q8 A n c l (d7 l) [.int .u32 (v1 : Int), .int .u32 (v2 : Int), .int .i64 (v3 : Int), .int .i64 (v4 : Int), .int .i64 (v5 : Int), .int .i64 (v5 : Int), .int .i64 (v6 : Int), .int .i64 0, .slice none 0 0, .slice none 0 0, .slice none 0 0, .int .i64 0, .int .i64 0] w15 := N6.num kk o1
  obtain ⟨k0, k1, k2, k3, k4, k5, k6, k7, k8, k9, k10, k11, k12⟩ := cells13 M7.m
  have fM := fun j => M7.m.frozen j
  have lM := M7.m.lt
  clear o1 kk N6
  have MM := hide M7
  clear M7
  go_wp2_with fail
  clear k0 k1 k2 k3 k4 k5 k6 k7 k8 k9 k10 k11 k12 fM lM
  have N7 : DZ w w.heap.size ge ga (w.heap.size + 1) q8 A n c l (d7 l) [.int .u32 (v1 : Int), .int .u32 (v2 : Int), .int .i64 (v3 : Int), .int .i64 (v4 : Int), .int .i64 (v5 : Int), .int .i64 (v5 : Int), .int .i64 (v6 : Int), .int .i64 (v7 : Int), .slice none 0 0, .slice none 0 0, .slice none 0 0, .int .i64 0, .int .i64 0] _ := MM.out.put 7 (.int .i64 (v7 : Int))
  generalize w15.setCell ⟨q8, 7, none⟩ (.int .i64 (v7 : Int)) = w16 at N7 ⊢
  clear MM
  obtain ⟨v8, hv8⟩ : ∃ v, val l (d7 l) 2 = v := ⟨_, rfl⟩
  have bv8 : v8 ≤ 65535 := by have := val_lt l (d7 l) 2; rw [hv8] at this; omega
  have Hv8 := hide hv8
  clear hv8
  refine (getNum_any w.heap.size w.heap.size ge ga n c 2 _ A l (d7 l) w16 N7.ds rfl (by omega) (by have := BD.out; omega)).mono ?_
  rw [Hv8.out]
  rintro e' w17 ⟨rfl, o1, kk⟩
  have M8 : DZ w w.heap.size ge ga (w.heap.size + 1) q8 A n c l (d8 l) [.int .u32 (v1 : Int), .int .u32 (v2 : Int), .int .i64 (v3 : Int), .int .i64 (v4 : Int), .int .i64 (v5 : Int), .int .i64 (v5 : Int), .int .i64 (v6 : Int), .int .i64 (v7 : Int), .slice none 0 0, .slice none 0 0, .slice none 0 0, .int .i64 0, .int .i64 0] w17 := N7.num kk o1
  obtain ⟨k0, k1, k2, k3, k4, k5, k6, k7, k8, k9, k10, k11, k12⟩ := cells13 M8.m
  have fM := fun j => M8.m.frozen j
  have lM := M8.m.lt
  clear o1 kk N7
  have MM := hide M8
  clear M8
  go_wp2_with fail
  clear k0 k1 k2 k3 k4 k5 k6 k7 k8 k9 k10 k11 k12 fM lM
  have N8 : DZ w w.heap.size ge ga (w.heap.size + 1) q8 A n c l (d8 l) [.int .u32 (v1 : Int), .int .u32 (v2 : Int), .int .i64 (v3 : Int), .int .i64 (v4 : Int), .int .i64 (v5 : Int), .int .i64 (v5 : Int), .int .i64 (v6 : Int), .int .i64 (v7 : Int), .slice none 0 0, .slice none 0 0, .slice none 0 0, .int .i64 (v8 : Int), .int .i64 0] _ := MM.out.put 11 (.int .i64 (v8 : Int))
  generalize w17.setCell ⟨q8, 11, none⟩ (.int .i64 (v8 : Int)) = w18 at N8 ⊢
  clear MM
  obtain ⟨v9, hv9⟩ : ∃ v, val l (d8 l) 2 = v := ⟨_, rfl⟩
  have bv9 : v9 ≤ 65535 := by have := val_lt l (d8 l) 2; rw [hv9] at this; omega
  have Hv9 := hide hv9
  clear hv9
  refine (getNum_any w.heap.size w.heap.size ge ga n c 2 _ A l (d8 l) w18 N8.ds rfl (by omega) (by have := BD.out; omega)).mono ?_
  rw [Hv9.out]
  rintro e' w19 ⟨rfl, o1, kk⟩
  have M9 : DZ w w.heap.size ge ga (w.heap.size + 1) q8 A n c l (d9 l) [.int .u32 (v1 : Int), .int .u32 (v2 : Int), .int .i64 (v3 : Int), .int .i64 (v4 : Int), .int .i64 (v5 : Int), .int .i64 (v5 : Int), .int .i64 (v6 : Int), .int .i64 (v7 : Int), .slice none 0 0, .slice none 0 0, .slice none 0 0, .int .i64 (v8 : Int), .int .i64 0] w19 := N8.num kk o1
  obtain ⟨k0, k1, k2, k3, k4, k5, k6, k7, k8, k9, k10, k11, k12⟩ := cells13 M9.m
  have fM := fun j => M9.m.frozen j
  have lM := M9.m.lt
  clear o1 kk N8
  have MM := hide M9
  clear M9
  go_wp2_with fail
  clear k0 k1 k2 k3 k4 k5 k6 k7 k8 k9 k10 k11 k12 fM lM
  have N9 : DZ w w.heap.size ge ga (w.heap.size + 1) q8 A n c l (d9 l) [.int .u32 (v1 : Int), .int .u32 (v2 : Int), .int .i64 (v3 : Int), .int .i64 (v4 : Int), .int .i64 (v5 : Int), .int .i64 (v5 : Int), .int .i64 (v6 : Int), .int .i64 (v7 : Int), .slice none 0 0, .slice none 0 0, .slice none 0 0, .int .i64 (v8 : Int), .int .i64 (v9 : Int)] _ := MM.out.put 12 (.int .i64 (v9 : Int))
  generalize w19.setCell ⟨q8, 12, none⟩ (.int .i64 (v9 : Int)) = w20 at N9 ⊢
  clear MM
  have hn2 : n ≤ 1099511627776 := by omega
  have N9h := hide N9
  clear BD
  refine (getRun_any w.heap.size w.heap.size ge ga n c A l (d9 l) w20 N9.ds hn2).mono ?_
  rintro e' w21 ⟨⟨A1, n1, c1, rfl, r1_⟩, o1, k1⟩
  have R1 : DZ w w.heap.size ge ga (w.heap.size + 1) q8 A n c l (r1 l) [.int .u32 (v1 : Int), .int .u32 (v2 : Int), .int .i64 (v3 : Int), .int .i64 (v4 : Int), .int .i64 (v5 : Int), .int .i64 (v5 : Int), .int .i64 (v6 : Int), .int .i64 (v7 : Int), .slice none 0 0, .slice none 0 0, .slice none 0 0, .int .i64 (v8 : Int), .int .i64 (v9 : Int)] w21 := N9.num k1 o1
  clear N9 N9h o1 k1
  go_wp2_with fail
  refine (getRun_any w.heap.size w.heap.size ge ga n c A l (r1 l) w21 R1.ds hn2).mono ?_
  rintro e' w22 ⟨⟨A2, n2, c2, rfl, r2_⟩, o2, k2⟩
  have R2 : DZ w w.heap.size ge ga (w.heap.size + 1) q8 A n c l (r2 l) [.int .u32 (v1 : Int), .int .u32 (v2 : Int), .int .i64 (v3 : Int), .int .i64 (v4 : Int), .int .i64 (v5 : Int), .int .i64 (v5 : Int), .int .i64 (v6 : Int), .int .i64 (v7 : Int), .slice none 0 0, .slice none 0 0, .slice none 0 0, .int .i64 (v8 : Int), .int .i64 (v9 : Int)] w22 := R1.num k2 o2
  have r1b := (R1.row k2 r1_ (Nat.le_refl _)).more k2.size
  clear R1 o2 k2 r1_
  go_wp2_with fail
  refine (getRun_any w.heap.size w.heap.size ge ga n c A l (r2 l) w22 R2.ds hn2).mono ?_
  rintro e' w23 ⟨⟨A3, n3, c3, rfl, r3_⟩, o3, k3⟩
  have R3 : DZ w w.heap.size ge ga (w.heap.size + 1) q8 A n c l (r3 l) [.int .u32 (v1 : Int), .int .u32 (v2 : Int), .int .i64 (v3 : Int), .int .i64 (v4 : Int), .int .i64 (v5 : Int), .int .i64 (v5 : Int), .int .i64 (v6 : Int), .int .i64 (v7 : Int), .slice none 0 0, .slice none 0 0, .slice none 0 0, .int .i64 (v8 : Int), .int .i64 (v9 : Int)] w23 := R2.num k3 o3
  have r1c := (R2.row k3 r1b (Nat.le_refl _)).more k3.size
  have r2c := (R2.row k3 r2_ (Nat.le_refl _)).more k3.size
  clear R2 o3 k3 r1b r2_
  have hl1 := r1c.len
  have hl2 := r2c.len
  have hl3 := r3_.len
  rw [cs8_len] at hl1 hl2 hl3
  have vl1 := valr_len l (d9 l)
  have vl2 := valr_len l (r1 l)
  have vl3 := valr_len l (r2 l)
  obtain ⟨pz, hpz⟩ : ∃ z, (r3 l).1 = z := ⟨_, rfl⟩
  obtain ⟨ez, hez⟩ : ∃ z, (r3 l).2 = z := ⟨_, rfl⟩
  have kE := R3.ds.e.cell (j := 0) rfl
  have kA := R3.ds.a.cell (j := 0) rfl
  have kB := R3.ds.b.cell (j := 0) rfl
  simp only [hez] at kE
  simp only [hpz] at kA
  have HI := hide (frm0_iff l)
  have hrow := hide (And.intro r1c (And.intro r2c r3_))
  have HL := hide (And.intro hl1 (And.intro hl2 hl3))
  have HV := hide (And.intro vl1 (And.intro vl2 vl3))
  have HPE := hide (And.intro hpz hez)
  have RR := hide R3
  have hn1 : n1 ≤ 100000 := by have := HLEN.out; omega
  have hnn2 : n2 ≤ 100000 := by have := HLEN.out; omega
  have hnn3 : n3 ≤ 100000 := by have := HLEN.out; omega
  clear R3 r1c r2c r3_ hl1 hl2 hl3 vl1 vl2 vl3 hpz hez
  have hcase : (ez == 0) = false ∨ (ez = 0 ∧ (pz == (n : Int)) = false) ∨ (ez = 0 ∧ pz = (n : Int) ∧ (((n1 : Int) % 4) == 0) = false) ∨ (ez = 0 ∧ pz = (n : Int) ∧ (((n1 : Int) % 4) == 0) = true) := by
    by_cases e0 : ez = 0
    · by_cases p0 : pz = (n : Int)
      · by_cases f0 : (n1 : Int) % 4 = 0
        · exact .inr (.inr (.inr ⟨e0, p0, beq_iff_eq.2 f0⟩))
        · exact .inr (.inr (.inl ⟨e0, p0, beq_eq_false_iff_ne.2 f0⟩))
      · exact .inr (.inl ⟨e0, beq_eq_false_iff_ne.2 p0⟩)
    · exact .inl (beq_eq_false_iff_ne.2 e0)
  rcases hcase with g0 | ⟨rfl, g1⟩ | ⟨rfl, rfl, g2⟩ | ⟨rfl, rfl, g2⟩
  · have g0b := bne_of g0
    have HN := hide (show ¬ Frm l from fun hF => by
      obtain ⟨x1, x2, x3⟩ := HI.out.1 hF.zero
      rw [HPE.out.2] at x1
      rw [HPE.out.1] at x2
      rw [HL.out.1] at x3
      rw [beq_eq_false_iff_ne] at g0; exact g0 x1)
    have HG := hide g0
    clear HI
    have fZ := fun j => RR.out.z.frozen j
    obtain ⟨k0, k1, k2, k3, k4, k5, k6, k7, k8, k9, k10, k11, k12⟩ := cells13 RR.out.z
    have lZ := RR.out.z.lt
    go_wp2
    refine ret_im (g := w.heap.size + 1) rfl rfl rfl (RR.out.z.put13 _ _ _ _ _ _ _ _ _ _ _ _ _) rfl ?_
    exact GivesM.zero (dec_no HN.out).1 (dec_no HN.out).2 (below13 RR.out.bl (by omega) _ _ _ _ _ _ _ _ _ _ _ _ _)
  · have g1b := bne_of g1
    have HN := hide (show ¬ Frm l from fun hF => by
      obtain ⟨x1, x2, x3⟩ := HI.out.1 hF.zero
      rw [HPE.out.2] at x1
      rw [HPE.out.1] at x2
      rw [HL.out.1] at x3
      rw [beq_eq_false_iff_ne] at g1; have := HLEN.out; omega)
    have HG := hide g1
    clear HI
    have fZ := fun j => RR.out.z.frozen j
    obtain ⟨k0, k1, k2, k3, k4, k5, k6, k7, k8, k9, k10, k11, k12⟩ := cells13 RR.out.z
    have lZ := RR.out.z.lt
    go_wp2
    refine ret_im (g := w.heap.size + 1) rfl rfl rfl (RR.out.z.put13 _ _ _ _ _ _ _ _ _ _ _ _ _) rfl ?_
    exact GivesM.zero (dec_no HN.out).1 (dec_no HN.out).2 (below13 RR.out.bl (by omega) _ _ _ _ _ _ _ _ _ _ _ _ _)
  · have g2b := bne_of g2
    have HN := hide (show ¬ Frm l from fun hF => by
      obtain ⟨x1, x2, x3⟩ := HI.out.1 hF.zero
      rw [HPE.out.2] at x1
      rw [HPE.out.1] at x2
      rw [HL.out.1] at x3
      rw [beq_eq_false_iff_ne] at g2; omega)
    have HG := hide g2
    clear HI
    have fZ := fun j => RR.out.z.frozen j
    obtain ⟨k0, k1, k2, k3, k4, k5, k6, k7, k8, k9, k10, k11, k12⟩ := cells13 RR.out.z
    have lZ := RR.out.z.lt
    go_wp2
    refine ret_im (g := w.heap.size + 1) rfl rfl rfl (RR.out.z.put13 _ _ _ _ _ _ _ _ _ _ _ _ _) rfl ?_
    exact GivesM.zero (dec_no HN.out).1 (dec_no HN.out).2 (below13 RR.out.bl (by omega) _ _ _ _ _ _ _ _ _ _ _ _ _)
  · have F0 : Frm0 l := HI.out.2 ⟨HPE.out.2, by rw [HPE.out.1, ← HLEN.out], by rw [HL.out.1]; rw [beq_iff_eq] at g2; omega⟩
    have h4 : (valr l (d9 l)).length % 4 = 0 := by rw [HL.out.1]; rw [beq_iff_eq] at g2; omega
    have VS := hide (dec_zero HPE.out.2)
    have FF := hide F0
    clear F0 HI
    have g2b := bne_of g2
    go_wp2_with fail
    refine (valuesOf_any w23.heap.size A1 n1 c1 (valr l (d9 l)) w23 hrow.out.1 (Nat.le_refl _) (by omega) h4).mono ?_
    rintro e' w24 ⟨Af, nf, cf, rfl, of, qf⟩
    clear h4 g2 g2b kE kA kB
    have S := RR.out.keep qf
    have lq := RR.out.m.lt
    have y2 := (hrow.out.2.1.keep qf (Nat.le_refl _)).more qf.size
    have y3 := (hrow.out.2.2.keep qf (Nat.le_refl _)).more qf.size
    have fM := fun j => S.m.frozen j
    obtain ⟨k0, k1, k2, k3, k4, k5, k6, k7, k8, k9, k10, k11, k12⟩ := cells13 S.m
    have lM := S.m.lt
    have SS := hide S
    have YY := hide (And.intro y2 y3)
    have OF := hide of
    have QF := hide qf
    clear S y2 y3 of qf
    go_wp2_with fail
    clear k0 k1 k2 k3 k4 k5 k6 k7 k8 k9 k10 k11 k12 fM
    have T : DZ w w.heap.size ge ga (w.heap.size + 1) q8 A n c l (r3 l) [.int .u32 (v1 : Int), .int .u32 (v2 : Int), .int .i64 (v3 : Int), .int .i64 (v4 : Int), .int .i64 (v5 : Int), .int .i64 (v5 : Int), .int .i64 (v6 : Int), .int .i64 (v7 : Int), .slice Af nf cf, .slice none 0 0, .slice none 0 0, .int .i64 (v8 : Int), .int .i64 (v9 : Int)] _ := SS.out.put 8 (.slice Af nf cf)
    have y2 := Row.off8 SS.out.m img_no YY.out.1 (w' := w24.setCell ⟨q8, 8, none⟩ (.slice Af nf cf)) fun k hk => heap_setCell_other _ _ k _ hk
    have y3 := Row.off8 SS.out.m img_no YY.out.2 (w' := w24.setCell ⟨q8, 8, none⟩ (.slice Af nf cf)) fun k hk => heap_setCell_other _ _ k _ hk
    have of2 := own_offk OF.out (q := q8) (fun k hk => by have := (OF.out.lt k hk).1; omega) 8 (.slice Af nf cf)
    rw [← size_set w24 ⟨q8, 8, none⟩ (.slice Af nf cf)] at y2 y3
    have ZZ := hide (And.intro (SS.out.z.other SS.out.ne.2.2.2.2.2 8 (.slice Af nf cf)) lq)
    have hsz : w23.heap.size ≤ (w24.setCell ⟨q8, 8, none⟩ (.slice Af nf cf)).heap.size := by rw [size_set]; exact QF.out.size
    generalize w24.setCell ⟨q8, 8, none⟩ (.slice Af nf cf) = w25 at T y2 y3 of2 ZZ hsz ⊢
    clear SS YY OF QF
    have hr23 : w.heap.size ≤ w23.heap.size := RR.out.bl.size
    by_cases D2 : (decA (valr l (r1 l))).2.1 = 0
    · by_cases D3 : (decA (valr l (r2 l))).2.1 = 0
      · refine (withCodes_ok v1 v2 v3 v4 v5 v5 v6 v7 v8 v9 Af nf cf A2 A3 n2 c2 n3 c3 _ _ w25 y2 y3 (by omega) (by omega) (hide D2) (hide D3)).mono ?_
        rintro e' w26 ⟨sA, sn, sc, mA, mn, mc, rfl, os, om, q26⟩
        have of3 := own_keep of2 q26
        have Y := T.keep q26
        have fZ := fun j => Y.z.frozen j
        obtain ⟨z0, z1, z2, z3, z4, z5, z6, z7, z8, z9, z10, z11, z12⟩ := cells13 Y.z
        have lZ := Y.z.lt
        have hs25 := Y.bl.size
        have T25 := T.bl.size
        have lz25 := T.z.lt
        have YY := hide (And.intro Y (And.intro of3 (And.intro os om)))
        have HD := hide (And.intro D2 D3)
        clear Y of3 os om q26 T y2 y3 of2 D2 D3
        go_wp2
        obtain ⟨Y, of3, os, om⟩ := YY.out
        have VV := VS.out
        obtain ⟨_, _, _, _, _, u1, u2, u3, u4, u5, u6, u7, u8, u9, x1, x2, x3⟩ := VV
        have hF : Frm l := frm_of FF.out HT.out (by rw [← x2]; exact HD.out.1) (by rw [← x3]; exact HD.out.2)
        refine ret_im (g := w.heap.size + 1) rfl rfl rfl (Y.z.put13 _ _ _ _ _ _ _ _ _ _ _ _ _) rfl ?_
        refine ⟨⟨v1, v2, v3, v4, v5, v5, v6, v7, v8, v9, fsV (valr l (d9 l)), (decA (valr l (r1 l))).1, (decA (valr l (r2 l))).1, Af, nf, cf, sA, sn, sc, mA, mn, mc⟩, by rw [(dec_yes hF).2], ?_, ?_, ?_, ?_, below13 Y.bl (by omega) _ _ _ _ _ _ _ _ _ _ _ _ _⟩
        · rw [(dec_yes hF).1]
          unfold rdM IV.m
          rw [← u1, ← u2, ← u3, ← u4, ← u5, ← u6, ← u7, ← u8, ← u9, ← x1, ← x2, ← x3, Hv1.out, Hv2.out, Hv3.out, Hv4.out, Hv5.out, Hv6.out, Hv7.out, Hv8.out, Hv9.out]
        · exact own_lower (own13 of3 (fun k hk => by have := (of3.lt k hk).1; have := RR.out.z.lt; omega) _ _ _ _ _ _ _ _ _ _ _ _ _) (by omega)
        · exact own_lower (own13 os (fun k hk => by have := (os.lt k hk).1; omega) _ _ _ _ _ _ _ _ _ _ _ _ _) (by omega)
        · exact own_lower (own13 om (fun k hk => by have := (om.lt k hk).1; omega) _ _ _ _ _ _ _ _ _ _ _ _ _) (by omega)
      · have HN := hide (show ¬ Frm l from fun hF => by
          obtain ⟨_, _, _, _, _, _, _, _, _, _, _, _, _, _, _, x2, x3⟩ := VS.out
          rw [x3] at D3; exact D3 hF.d3)
        refine (withCodes_bad2 v1 v2 v3 v4 v5 v5 v6 v7 v8 v9 Af nf cf A2 A3 n2 c2 n3 c3 _ _ w25 y2 y3 (by omega) (by omega) (hide D2) (hide D3)).mono ?_
        rintro e' w26 ⟨rfl, q26⟩
        have Y := T.keep q26
        have fZ := fun j => Y.z.frozen j
        obtain ⟨z0, z1, z2, z3, z4, z5, z6, z7, z8, z9, z10, z11, z12⟩ := cells13 Y.z
        have lZ := Y.z.lt
        have YY := hide Y
        clear Y q26 T y2 y3 of2 D2 D3
        go_wp2
        refine ret_im (g := w.heap.size + 1) rfl rfl rfl (YY.out.z.put13 _ _ _ _ _ _ _ _ _ _ _ _ _) rfl ?_
        exact GivesM.zero (dec_no HN.out).1 (dec_no HN.out).2 (below13 YY.out.bl (by omega) _ _ _ _ _ _ _ _ _ _ _ _ _)
    · have HN := hide (show ¬ Frm l from fun hF => by
        obtain ⟨_, _, _, _, _, _, _, _, _, _, _, _, _, _, _, x2, x3⟩ := VS.out
        rw [x2] at D2; exact D2 hF.d2)
      refine (withCodes_bad1 v1 v2 v3 v4 v5 v5 v6 v7 v8 v9 Af nf cf A2 A3 n2 c2 n3 c3 _ _ w25 y2 y3 (by omega) (by omega) (hide D2)).mono ?_
      rintro e' w26 ⟨rfl, q26⟩
      have Y := T.keep q26
      have fZ := fun j => Y.z.frozen j
      obtain ⟨z0, z1, z2, z3, z4, z5, z6, z7, z8, z9, z10, z11, z12⟩ := cells13 Y.z
      have lZ := Y.z.lt
      have YY := hide Y
      clear Y q26 T y2 y3 of2 D2
      go_wp2
      refine ret_im (g := w.heap.size + 1) rfl rfl rfl (YY.out.z.put13 _ _ _ _ _ _ _ _ _ _ _ _ _) rfl ?_
      exact GivesM.zero (dec_no HN.out).1 (dec_no HN.out).2 (below13 YY.out.bl (by omega) _ _ _ _ _ _ _ _ _ _ _ _ _)
theorem decoded_any (B : Nat) (A : Option Addr) (n c : Nat) (l : List UInt8) (w : World) (hr : Row w B A n c (cs8 l)) (hB : B ≤ w.heap.size) (hn : n ≤ 100000) :
    Calls Tryz.prog 23 #[.slice A n c] w (GivesM w (decM l) (decE l)) := by
  by_cases h : l.take 4 = mids
  · exact decoded_main B A n c l w hr hB hn h
  · exact decoded_head B A n c l w hr hB h

end Go.Proofs.YtdikiabjkmigdaaGreatDoor
