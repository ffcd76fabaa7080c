/-
  Contracts of the laws' helpers: Same, Count (layer 2's reference), alike.
-/
import Derived.Test.YtimajdhfgkpndaaFRef3
namespace Go.Proofs.Ytimajdhfgkpndaa
open Go.RowKit
set_option maxHeartbeats 400000

def Drew (b : Bool) (w : World) (e : Ending) (w' : World) : Prop := ∃ k, e = .returned (.bool b) ∧ w' = w.drewN k
theorem Same_any (B B' : Nat) (A A' : Option Addr) (n n' c c' : Nat) (ws : List UInt32) (w : World) (hr : Row w B A n c (cs32 ws)) (hr' : Row w B' A' n' c' (cs32 ws)) :
    Calls Try.prog 30 #[.slice A n c, .slice A' n' c'] w (Drew true w) := by
  obtain rfl : n' = n := by have h1 := hr.len; have h2 := hr'.len; omega
  have hn := hr.len
  rw [cs32_len] at hn
  subst hn
  have hm := hr.max
  have hcap := hr.cap
  unfold maxLen at hm
  go_enter Try.func30, Try.ntmps30
  go_wp2
  go_loopw [5] (fun i wr => ∃ j k : Nat, j ≤ ws.length ∧ i = .int .i64 (j : Int) ∧ wr = w.drewN k) (fun i _ => ws.length - (intOf i).toNat)
  case atStart => exact ⟨0, 0, Nat.zero_le _, rfl, rfl⟩
  case round =>
    obtain ⟨j, k, hj, rfl, rfl⟩ := hrel
    by_cases hlt : j < ws.length
    · obtain ⟨b, o, u, rfl, _, hu, hc⟩ := hr.get hlt
      obtain ⟨b', o', u', rfl, _, hu', hc'⟩ := hr'.get hlt
      rw [cs32_at hlt] at hu hu'
      obtain rfl := Option.some.inj hu
      obtain rfl := Option.some.inj hu'
      have hw := ws[j].toNat_lt
      have hi1 : (j : Int) < (ws.length : Int) := by omega
      clear hu hu' hr hr'
      go_wp2
      go_quiet (fail)
      go_wp2
      go_roundw
      case rel => exact ⟨j + 1, k + nq, by omega, by go_num, by first | rfl | exact World.drewN_drewN⟩
      case measure => simp [intOf]; omega
    · obtain rfl : j = ws.length := by omega
      go_wp2
      go_ret
      exact ⟨k, rfl, rfl⟩
theorem Row.of_drewN {w : World} {B n c : Nat} {A : Option Addr} {xs : List Value} (h : Row w B A n c xs) (k : Nat) : Row (w.drewN k) B A n c xs := ⟨h.len, h.cap, h.max, h.nil, h.cells⟩
theorem Fl.drewN {w : World} {g h : Nat} {s : FS} (f : Fl w g h s) (k : Nat) : Fl (w.drewN k) g h s := ((Keeps.refl [] w).drewN k).fl f (by simp) (by simp)
theorem Rf.drewN {w : World} {g h : Nat} {s : FS} (f : Rf w g h s) (k : Nat) : Rf (w.drewN k) g h s := ((Keeps.refl [] w).drewN k).rf f (by simp) (by simp)
theorem calm {P : Program} {f : FuncId} {args : Array Value} {w : World} {n : Nat} {v : Value} (h : Calls P f args (w.drewN n) fun e w' => e = .returned v ∧ w.drewN n = w') : Calls P f args (w.drewN n) fun e w'' => e = .returned v ∧ ∃ m, w'' = w.drewN m :=
  h.mono fun _ _ ⟨he, hm⟩ => ⟨he, n, hm.symm⟩
theorem calm_same {B B' : Nat} {A A' : Option Addr} {n n' c c' : Nat} {ws : List UInt32} {w : World} {i : Nat} (hr : Row w B A n c (cs32 ws)) (hr' : Row w B' A' n' c' (cs32 ws)) :
    Calls Try.prog 30 #[.slice A n c, .slice A' n' c'] (w.drewN i) fun e w'' => e = .returned (.bool true) ∧ ∃ m, w'' = w.drewN m :=
  (Same_any B B' A A' n n' c c' ws _ (hr.of_drewN i) (hr'.of_drewN i)).mono fun _ _ ⟨k, he, hm⟩ => ⟨he, i + k, by rw [hm, World.drewN_drewN]⟩
theorem alike_any (g h g2 h2 : Nat) (s : FS) (w : World) (f : Fl w g h s) (r : Rf w g2 h2 s) :
    Calls Try.prog 22 #[.pointer (some ⟨g, 0, none⟩), .pointer (some ⟨g2, 0, none⟩)] w fun e w' => e = .returned (.bool true) ∧ Keeps [] w w' := by
  have hlen := len_pos f.ok
  go_enter Try.func22, Try.ntmps22
  go_wp2_with fail
  refine (Words_any g h s _ f).mono ?_
  rintro e w1 ⟨x, c, rfl, ho, hk, hx⟩
  have f1 := hk.fl f (by simp) (by simp)
  have r1 := hk.rf r (by simp) (by simp)
  obtain ⟨cr, m, _, hb, hor⟩ := r1.ex
  have c0 : w1.cell? ⟨g2, 0, none⟩ = some (.slice (some ⟨h2, 0, none⟩) s.ws.length cr) := hb.cell (j := 0) rfl
  have c1 : w1.cell? ⟨g2, 1, none⟩ = some (.bool (!s.on)) := hb.cell (j := 1) rfl
  have c4 : w1.cell? ⟨g2, 4, none⟩ = some (.int .i64 (s.ops : Int)) := hb.cell (j := 4) rfl
  have HB := hide hb
  have HOR := hide hor
  have HO := hide ho
  have q1 := Row.of_own ho
  have q2 := Row.of_own hor
  clear hb hor ho
  go_wp2_with fail
  go_quiet (first
    | (go_at_call 30; exact calm_same q1 q2)
    | (go_at_call 32; exact calm (Len_any g h s _ (f1.drewN _)))
    | (go_at_call 29; exact calm (On_any g h s _ (f1.drewN _)))
    | (go_at_call 31; exact calm (Ops_any g h s _ (f1.drewN _))))
  have hk2 := hk.drewN nq
  have f2 := f1.drewN nq
  have r2 := r1.drewN nq
  have ho2 := HO.out
  have ho3 : (w1.drewN nq).ownsRow 0 28 1 (.slice (some ⟨x, 0, none⟩) s.ws.length c) s.ws.length (cs32 s.ws) := ho2
  clear HO HOR HB f1 r1 c0 c1 c4 q1 q2 hk ho2
  generalize w1.drewN nq = w2 at hk2 f2 r2 ho3 ⊢
  have l1 := f.lt
  have l2 := f.lt2
  have l3 := r.lt
  have l4 := r.lt2
  go_wp2
  go_loopw [7] (fun i wr => ∃ (j : Nat) (zs : List UInt32), j ≤ s.ws.length ∧ i = .int .i64 (j : Int) ∧ Hid (zs.length = s.ws.length) ∧ wr.ownsRow 0 28 1 (.slice (some ⟨x, 0, none⟩) s.ws.length c) s.ws.length (cs32 zs) ∧ Keeps [x] w2 wr) (fun i _ => s.ws.length - (intOf i).toNat)
  case atStart => exact ⟨0, s.ws, Nat.zero_le _, rfl, rfl, ho3, Keeps.refl _ _⟩
  case round =>
    clear ho3
    obtain ⟨j, zs, hj, rfl, HZ, ho, hkp⟩ := hrel
    by_cases hlt : j < s.ws.length
    · have hjl : j < zs.length := by have := HZ.out; omega
      have hc := ho.cellAt j (by omega)
      rw [cs32_at hjl] at hc
      have hz := ho.frozenAt j
      have hst := ho.stored j (.int .u32 ((5 : UInt32).toNat : Int))
      rw [cs32_set, show ((5 : UInt32).toNat : Int) = 5 from rfl] at hst
      have HST := hide hst
      have HL := hide (show (zs.set j 5).length = s.ws.length by rw [List.length_set]; exact HZ.out)
      clear ho hst
      go_wp2
      go_roundw
      case rel => exact ⟨j + 1, _, by omega, by go_num, HL, HST.out.1, hkp.trans (Keeps.of_grown HST.out.2) (by simp)⟩
      case measure => simp [intOf]; omega
    · have hj2 : j = s.ws.length := by omega
      have f3 := hkp.fl f2 (by simp; omega) (by simp; omega)
      have r3 := hkp.rf r2 (by simp; omega) (by simp; omega)
      have hk3 : Keeps [] w wr := hk2.trans hkp (by simp; omega)
      clear ho hkp f2 r2 hk2 hj2
      go_wp2_with fail
      have f4 : Fl wr.drew g h s := (Keeps.refl [] wr).drew.fl f3 (by simp) (by simp)
      have r4 : Rf wr.drew g2 h2 s := (Keeps.refl [] wr).drew.rf r3 (by simp) (by simp)
      have hk4 := hk3.drew
      clear f3 r3 hk3
      obtain ⟨cr, m, _, hb, hor⟩ := r4.ex
      have c0 : wr.drew.cell? ⟨g2, 0, none⟩ = some (.slice (some ⟨h2, 0, none⟩) s.ws.length cr) := hb.cell (j := 0) rfl
      have HB := hide hb
      have HOR := hide hor
      clear hb hor r4
      go_region_with (first
        | (go_at_call 28; refine (Words_any g h s _ f4).mono ?_; rintro e w5 ⟨x5, c5, rfl, ho5, hk5, hx5⟩; have q5 := Row.of_own ho5; have q6 := Row.of_own (hk5.own HOR.out (by simp)); have c05 : w5.cell? ⟨g2, 0, none⟩ = some (.slice (some ⟨h2, 0, none⟩) s.ws.length cr) := (hk5.blk HB.out (by simp)).cell (j := 0) rfl)
        | (go_at_call 30; refine (Same_any _ _ _ _ _ _ _ _ s.ws _ q5 q6).mono ?_; rintro e w6 ⟨k6, rfl, rfl⟩))
      all_goals
        go_wp2
        go_ret
        exact ⟨rfl, (hk4.trans hk5 (by simp)).drewN k6⟩
end Go.Proofs.Ytimajdhfgkpndaa
