/-
  Contracts: bytes.Equal and bytes.HasPrefix, and the closures of image.decoded.
-/
import Derived.Test.YtdikiabjkmigdaaYPkg5
import Derived.Test.YtdikiabjkmigdaaYDec
import Derived.IntWalk
namespace Go.Proofs.Ytdikiabjkmigdaa
open Go.RowKit
set_option maxRecDepth 20000
set_option maxHeartbeats 2000000

theorem beq_l (l m : List UInt8) (b : Bool) (h : decide (l = m) = b) : (l == m) = b := by
  subst h
  by_cases e : l = m
  · subst e; simp
  · rw [decide_eq_false e, beq_eq_false_iff_ne]; exact e
theorem Equal_any (B B' : Nat) (A A' : Option Addr) (n n' c c' : Nat) (l m : List UInt8) (w : World) (b : Bool) (hr : Row w B A n c (cs8 l)) (hr' : Row w B' A' n' c' (cs8 m)) (hb : decide (l = m) = b) :
    Calls Try.prog 71 #[.slice A n c, .slice A' n' c'] w fun e w' => e = .returned (.bool b) ∧ w = w' := by
  have hs1 := hr.str Try.underlying31 Try.underlying5 Try.underlying9
  have hs2 := hr'.str Try.underlying31 Try.underlying5 Try.underlying9
  have he := beq_l l m b hb
  clear hb
  go_enter Try.func71, Try.ntmps71
  go_wp2
  go_ret
  exact ⟨rfl, rfl⟩
theorem HasPrefix_mids (B B' : Nat) (A A' : Option Addr) (n c c' : Nat) (l : List UInt8) (w : World) (b : Bool) (hr : Row w B A n c (cs8 l)) (hr' : Row w B' A' 4 c' (cs8 mids)) (hb : decide (l.take 4 = mids) = b) :
    Calls Try.prog 46 #[.slice A n c, .slice A' 4 c'] w fun e w' => e = .returned (.bool b) ∧ w = w' := by
  have hn := hr.len
  rw [cs8_len] at hn
  by_cases h4 : 4 ≤ n
  · have hd : decide ((4 : Int) ≤ (n : Int)) = true := by simp; omega
    obtain ⟨A1, c1, hsl, hp⟩ := hr.headed Try.underlying31 size8 (hi := 4) h4 4 rfl
    rw [show (cs8 l).take 4 = cs8 (l.take 4) by simp [cs8]] at hp
    have HB := hide hb
    clear hb hn
    go_enter Try.func46, Try.ntmps46
    go_wp2_with (go_at_call 71; refine (Equal_any B B' A1 A' 4 4 c1 c' (l.take 4) mids _ b hp hr' HB.out).mono ?_; rintro e w' ⟨rfl, rfl⟩)
    go_ret
    exact ⟨rfl, rfl⟩
  · have hb2 : b = false := by
      rw [← hb]
      refine decide_eq_false fun hn2 => ?_
      have := congrArg List.length hn2
      rw [List.length_take, show mids.length = 4 from rfl] at this
      omega
    subst hb2
    have hd : decide ((4 : Int) ≤ (n : Int)) = false := by simp; omega
    clear hb
    go_enter Try.func46, Try.ntmps46
    go_wp2
    go_ret
    exact ⟨rfl, rfl⟩
/-- What the closures of decoded share: the bytes, the fault and the place, in a block each. -/
structure DS (B gb ge ga : Nat) (A : Option Addr) (n c : Nat) (l : List UInt8) (s : Int × Int) (w : World) : Prop where
  ne : gb ≠ ge ∧ gb ≠ ga ∧ ge ≠ ga
  b : Blk w gb 31 [.slice A n c]
  e : Blk w ge 32 [.int .i64 s.2]
  a : Blk w ga 3 [.int .i64 s.1]
  row : Row w B A n c (cs8 l)
  out : B ≤ gb ∧ B ≤ ge ∧ B ≤ ga
theorem DS.keep {B gb ge ga n c : Nat} {A : Option Addr} {l : List UInt8} {s : Int × Int} {w w' : World} (h : DS B gb ge ga A n c l s w) (hb : Below w.heap.size w w') : DS B gb ge ga A n c l s w' :=
  ⟨h.ne, h.b.keep hb h.b.lt, h.e.keep hb h.e.lt, h.a.keep hb h.a.lt, h.row.keep hb (by have := h.b.lt; have := h.out.1; omega), h.out⟩
theorem row_set {w : World} {B g j n c : Nat} {A : Option Addr} {xs : List Value} (h : Row w B A n c xs) (hg : B ≤ g) (v : Value) : Row (w.setCell ⟨g, j, none⟩ v) B A n c xs :=
  h.keep (below_set (Below.refl B w) hg v) (Nat.le_refl _)
theorem DS.setE {B gb ge ga n c : Nat} {A : Option Addr} {l : List UInt8} {a e e' : Int} {w : World} (h : DS B gb ge ga A n c l (a, e) w) : DS B gb ge ga A n c l (a, e') (w.setCell ⟨ge, 0, none⟩ (.int .i64 e')) :=
  ⟨h.ne, h.b.other h.ne.1 _ _, h.e.set 0 _, h.a.other h.ne.2.2.symm _ _, row_set h.row h.out.2.1 _, h.out⟩
theorem DS.setA {B gb ge ga n c : Nat} {A : Option Addr} {l : List UInt8} {a e a' : Int} {w : World} (h : DS B gb ge ga A n c l (a, e) w) : DS B gb ge ga A n c l (a', e) (w.setCell ⟨ga, 0, none⟩ (.int .i64 a')) :=
  ⟨h.ne, h.b.other h.ne.2.1 _ _, h.e.other h.ne.2.2 _ _, h.a.set 0 _, row_set h.row h.out.2.2 _, h.out⟩
theorem DS.other {B gb ge ga n c g j : Nat} {A : Option Addr} {l : List UInt8} {s : Int × Int} {w : World} (h : DS B gb ge ga A n c l s w) (hg : gb ≠ g ∧ ge ≠ g ∧ ga ≠ g) (hB : B ≤ g) (v : Value) : DS B gb ge ga A n c l s (w.setCell ⟨g, j, none⟩ v) :=
  ⟨h.ne, h.b.other hg.1 _ _, h.e.other hg.2.1 _ _, h.a.other hg.2.2 _ _, row_set h.row hB _, h.out⟩
/-- The closure that reads a number. -/
theorem getNum_any (B gb ge ga n c k : Nat) (ki : Int) (A : Option Addr) (l : List UInt8) (s : Int × Int) (w : World) (h : DS B gb ge ga A n c l s w) (hki : ki = (k : Int)) (hk : k ≤ 8) (hs : 0 ≤ s.1 ∧ s.1 ≤ 1000000) :
    Calls Try.prog 47 #[.int .i64 ki, .pointer (some ⟨ge, 0, none⟩), .pointer (some ⟨gb, 0, none⟩), .pointer (some ⟨ga, 0, none⟩)] w fun e w' => e = .returned (.int .u64 (val l s k : Int)) ∧ DS B gb ge ga A n c l (nxt l s k) w' ∧ Keeps [ge, ga] w w' := by
  subst hki
  obtain ⟨a, er⟩ := s
  simp only at hs
  have ce := h.e.cell (j := 0) rfl
  have ca := h.a.cell (j := 0) rfl
  have cb := h.b.cell (j := 0) rfl
  have fe := h.e.frozen 0
  have fa := h.a.frozen 0
  have le_ := h.e.lt
  have la := h.a.lt
  have hne := h.ne.2.2
  simp only at ce ca cb
  have HH := hide h
  clear h
  by_cases h0 : er = 0
  · subst h0
    have HV := hide (show val l (a, 0) k = getN l a (k : Int) from if_pos rfl)
    have HN := hide (show nxt l (a, 0) k = (a + k, getE l.length a (k : Int)) by unfold nxt; rw [if_pos rfl, if_pos rfl])
    obtain ⟨v, hv⟩ : ∃ v, getN l a (k : Int) = v := ⟨_, rfl⟩
    obtain ⟨z, hz⟩ : ∃ z, getE l.length a (k : Int) = z := ⟨_, rfl⟩
    have HG := hide hv
    have HZ := hide hz
    clear hv hz
    have wr : IntKind.i64.wrap (a + (k : Int)) = a + k := IntWalk.i64_in _ (by omega)
    go_enter Try.func47, Try.ntmps47
    go_wp2_with fail
    refine (Get_any B A n c l a (k : Int) w HH.out.row).mono ?_
    rw [HG.out, HZ.out]
    rintro e w' ⟨rfl, rfl⟩
    go_wp2
    go_ret
    refine ⟨by rw [HV.out, HG.out]; rfl, ?_, ?_⟩
    · rw [HN.out, HZ.out]
      exact (HH.out.setE (e' := z)).setA
    · exact ((Keeps.refl _ w).set (.inl (by simp)) _).set (.inl (by simp)) _
  · have HV := hide (show val l (a, er) k = 0 from if_neg h0)
    have HN := hide (show nxt l (a, er) k = (a, er) by unfold nxt; rw [if_neg h0, if_neg h0])
    have g0 : (er == 0) = false := beq_eq_false_iff_ne.2 h0
    clear h0
    go_enter Try.func47, Try.ntmps47
    go_wp2
    go_ret
    exact ⟨by rw [HV.out]; rfl, by rw [HN.out]; exact HH.out, Keeps.refl _ w⟩

end Go.Proofs.Ytdikiabjkmigdaa
