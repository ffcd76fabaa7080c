/-
  PROVED: for every input JournalPlays returns true, and its arguments read afterwards as they read before (JournalPlaysSaid).
  CONDITIONS: none.
-/
import Derived.Test.YtahnfkoakaimhaaOFrame
import Derived.Test.YtahnfkoakaimhaaJPlayA
import Derived.Test.YtahnfkoakaimhaaJOps
import Derived.Deep.Slices
namespace Go.Proofs.Ytahnfkoakaimhaa
open Go.ChangeShapes Go.WideShapes Go.ChangeAt Go.RowKit
theorem cJo : Try.prog.cellsOf 39 = 4 := by kernel_rfl
theorem cInt : Try.prog.cellsOf 3 = 1 := by kernel_rfl
theorem cWord : Try.prog.cellsOf 37 = 1 := by kernel_rfl
theorem cSl : Try.prog.cellsOf 36 = 1 := by kernel_rfl
theorem wf_i64 {a : Int} (h : (Lit.int .i64 a).wf = true) : -9223372036854775808 ≤ a ∧ a ≤ 9223372036854775807 := by
  simpa [Lit.wf, IntKind.min, IntKind.max, IntKind.signed, IntKind.bits] using h
theorem u32_of {a : Int} (h : (Lit.int .u32 a).wf = true) : ∃ v : UInt32, a = (v.toNat : Int) := by
  have := wf_u32 h
  exact ⟨word a.toNat, by rw [word_toNat]; omega⟩
set_option maxRecDepth 20000 in
theorem jo_cells {H : Type} {enc : TypeId × Value → H} {W : World} {fuel : Nat} {cs : List Value} {x : DataW H × List MemPlace}
    (h : DataW.trod enc Try.prog W 0 (fun _ => true) true fuel 39 cs = some x) : ∃ o : JO, cs = joC o ∧ joOk W o := by
  obtain ⟨xs, n, _, _, hl, hlen, hf⟩ := DataW.trod_struct Try.underlying39 h
  rw [cJo] at hl
  match cs, hl, xs, hlen with
  | [a, b, c, d], _, [y0, y1, y2, y3], _ =>
    have h0 := hf 0 _ rfl
    have h1 := hf 1 _ rfl
    have h2 := hf 2 _ rfl
    have h3 := hf 3 _ rfl
    obtain ⟨n0, e0, _, w0⟩ := DataW.trod_int Try.underlying3 h0
    obtain ⟨n2, e2, _, w2⟩ := DataW.trod_int Try.underlying3 h2
    obtain ⟨n3, e3, _, w3⟩ := DataW.trod_int Try.underlying37 h3
    simp [cInt] at e0 e2
    simp [cWord] at e3
    obtain ⟨v, rfl⟩ := u32_of w3
    have hb : ∃ (A : Option Addr) (k m : Nat) (l : List UInt32), b = .slice A k m ∧ Row W W.heap.size A k m (cs32 l) := by
      rcases open_ints Try.underlying36 Try.underlying37 (by kernel_rfl) h1 with ⟨hcs, _⟩ | ⟨x, l, c, zs, hcs, _, hl, hm, hz, _, hcell, hwz⟩
      · simp [cSl] at hcs
        exact ⟨none, 0, 0, [], hcs, Row.none_⟩
      · simp [cSl] at hcs
        exact ⟨some x, l, c, _, hcs, row_nums hl hm (by simpa using hz) hcell (nums32 _ fun n hn => hwz n (List.mem_of_mem_take hn))⟩
    obtain ⟨A, k, m, l, rfl, hrow⟩ := hb
    exact ⟨⟨n0, A, k, m, l, n2, v⟩, by rw [e0, e2, e3]; rfl, hrow, (wf_i64 w2).2, (wf_i64 w0).1, (wf_i64 w0).2⟩
set_option maxRecDepth 20000 in
theorem open_jops {H : Type} {enc : TypeId × Value → H} {W : World} {a : Option Addr} {len cap : Nat} {d : DataW H} {p : List MemPlace}
    (h : DataW.Trod enc Try.prog W 0 (fun _ => true) true 22 (.slice a len cap) d p) : ∃ os : List JO, JOps W a len cap os := by
  obtain ⟨fuel, hf⟩ := h
  rcases Go.Deep.open_slice Try.underlying22 hf with ⟨hcs, _⟩ | ⟨x, l, c, m, n, D, Pl, hcs, _, hl, hm, hmm, _, hx⟩
  · simp [Value.cells] at hcs
    obtain ⟨rfl, rfl, rfl⟩ := hcs
    exact ⟨[], rfl, Nat.le_refl _, by simp [maxLen], by intro j o h; simp at h, by intro o h; simp at h⟩
  · simp [Value.cells] at hcs
    obtain ⟨rfl, rfl, rfl⟩ := hcs
    have each : ∀ i, i < len → ∃ o : JO, joOk W o ∧ ∃ b f, x = ⟨b, f, none⟩ ∧ b < W.heap.size ∧ ∀ j u, (joC o)[j]? = some u → W.cell? ⟨b, f + i * 4 + j, none⟩ = some u := by
      intro i hi
      obtain ⟨cs, h1, h2⟩ := hx i (by rw [hmm]; split <;> omega)
      rw [cJo] at h1
      obtain ⟨_, hlen, hcell⟩ := World.cells?_some h1
      obtain ⟨o, rfl, hok⟩ := jo_cells h2
      obtain ⟨b, f, sp⟩ := x
      obtain ⟨cs0, g1, g2⟩ := hx 0 (by rw [hmm]; split <;> omega)
      rw [cJo] at g1
      obtain ⟨_, _, gcell⟩ := World.cells?_some g1
      obtain ⟨o0, rfl, _⟩ := jo_cells g2
      have h0 : W.cell? ⟨b, f, sp⟩ = some (.int .i64 o0.kd) := by
        have := gcell 0 (by omega)
        simpa [Addr.add, joC] using this
      obtain rfl : sp = none := by simpa using World.cell?_spot h0
      refine ⟨o, hok, b, f, rfl, ?_, fun j u hu => ?_⟩
      · exact World.block_lt_of_cell? W _ h0
      · have hj : j < (joC o).length := (List.getElem?_eq_some_iff.1 hu).1
        have h3 := hcell j (by rw [← hlen]; exact hj)
        rw [Addr.add_lit, Addr.add_lit] at h3
        rw [h3]
        first | exact hu | simpa using hu
    refine ⟨(List.range len).map fun i => if h : i < len then Classical.choose (each i h) else ⟨0, none, 0, 0, [], 0, 0⟩, by simp, hl, hm, fun j o ho => ?_, fun o ho => ?_⟩
    · rw [List.getElem?_map] at ho
      by_cases hj : j < len
      · rw [List.getElem?_range hj] at ho
        simp [hj] at ho
        subst ho
        obtain ⟨b, f, rfl, hb, hc⟩ := (Classical.choose_spec (each j hj)).2
        exact ⟨b, f, rfl, hb, hc⟩
      · rw [List.getElem?_eq_none (by simpa using hj)] at ho
        cases ho
    · obtain ⟨i, hi, rfl⟩ := List.mem_map.1 ho
      have hi' := List.mem_range.1 hi
      simp only [hi', dif_pos]
      exact (Classical.choose_spec (each i hi')).1
end Go.Proofs.Ytahnfkoakaimhaa
namespace Go.Proofs.Ytahnfkoakaimhaa
open Go.RowKit
set_option maxHeartbeats 8000000

theorem progsS_ops9 (l : List UInt32) : ∀ (s : FS) (a : Nat), (progsS s a l).ops ≤ s.ops + l.length := by
  induction l with
  | nil => intro s a; exact Nat.le_refl _
  | cons v l ih =>
    intro s a
    rw [progsS]
    have h1 := proS_ops s (a : Int) v
    have h2 := ih (proS s (a : Int) v) (a + 1)
    rw [List.length_cons]
    split <;> omega
theorem appS_ops9 (s : FS) (k : Nat) (r : List UInt32) : (appS s k r).ops ≤ s.ops + (r.length + 5) := by
  unfold appS
  have h0 := eraS_ops s (othN s.ws k : Int)
  split
  · have := progsS_ops9 (laidW ((curV s.ws k).num + 1) r) s (256 * curN s.ws k + (curV s.ws k).used)
    rw [laidW_len] at this; omega
  · split
    · have := progsS_ops9 (laidW ((curV s.ws k).num + 1) r) (eraS s (othN s.ws k)) (256 * othN s.ws k)
      rw [laidW_len] at this; omega
    · omega
theorem play_spec (s : FS) (k : Nat) (J : JS) (r : List UInt32) (hg : J.Good) (hl : J.dead = false → J.num = (curV s.ws k).num) (hk : 256 * (k + 2) ≤ s.ws.length) : (jS s k J r).ws.length = s.ws.length ∧ (jS s k J r).ops ≤ s.ops + 70 := by
  unfold jS
  by_cases hd : J.dead = true ∨ s.on = false
  · rw [if_pos hd]; exact ⟨rfl, by omega⟩
  · rw [if_neg hd]
    by_cases hb : bigB J r
    · rw [if_pos hb]; exact ⟨rfl, by omega⟩
    · rw [if_neg hb]
      have hdf : J.dead = false := by rcases hq : J.dead with _ | _; rfl; exact absurd (.inl hq) hd
      have hon : s.on = true := by rcases hq : s.on with _ | _; exact absurd (.inr hq) hd; rfl
      have h9 := hg.le
      have h8 := hl hdf
      unfold bigB at hb
      have := appS_ops9 s k r
      exact ⟨(app_spec s k r hon hk (by omega) (by omega) (by omega)).2.1, by omega⟩
/-- Whether no record is too long, and what follows. -/
def LightT (w : World) (A : Option Addr) (n : Nat) (e : Ending) (w' : World) : Prop :=
  w = w' ∧ (e = .returned (.bool false) ∨ (e = .returned (.bool true) ∧ ∀ i b f A' n' c', i < n → i < 40 → A = some ⟨b, f, none⟩ → w.cell? ⟨b, f + i * 4 + 1, none⟩ = some (.slice A' n' c') → n' ≤ 300))
theorem light_says (A : Option Addr) (n c : Nat) (os : List JO) (w : World) (h : JOps w A n c os) :
    Calls Try.prog 5 #[.slice A n c] w (LightT w A n) := by
  have hm := h.max
  have hcap := h.cap
  unfold maxLen at hm
  have H := hide h
  clear h
  go_enter Try.func5, Try.ntmps5
  go_wp2_with fail
  go_loopw [3] (fun i wr => ∃ j : Nat, j ≤ n ∧ j ≤ 40 ∧ i = .int .i64 (j : Int) ∧ wr = w ∧ Hid (∀ i b f A' n' c', i < j → A = some ⟨b, f, none⟩ → w.cell? ⟨b, f + i * 4 + 1, none⟩ = some (.slice A' n' c') → n' ≤ 300)) (fun i _ => 40 - (intOf i).toNat)
  case atStart => exact ⟨0, Nat.zero_le _, by omega, rfl, rfl, fun i _ _ _ _ _ h => by omega⟩
  case round =>
    obtain ⟨j, hj, hj2, rfl, rfl, HI⟩ := hrel
    by_cases hlt : j < n
    · by_cases hl4 : j < 40
      · obtain ⟨b, f, o, rfl, hb, c0, c1, c2, c3, hro, _, _, _⟩ := H.out.get (Keeps.refl [] wr) hlt
        have hi1 : (j : Int) < (n : Int) := by omega
        have hom := hro.max
        have hoc := hro.cap
        unfold maxLen at hom
        clear hro
        obtain ⟨kd, oA, on, oc, ol, oN, ov⟩ := o
        have C1 := hide c1
        by_cases hbig : 300 < on
        · have hd : decide ((300 : Int) < (on : Int)) = true := by simp; omega
          go_wp2_with fail
          go_ret
          exact ⟨rfl, .inl rfl⟩
        · have hd : decide ((300 : Int) < (on : Int)) = false := by simp; omega
          go_wp2_with fail
          go_roundw
          case rel =>
            refine ⟨j + 1, by omega, by omega, by go_num, by trivial, ?_⟩
            intro i b' f' A' n' c' hi e hc
            by_cases hij : i < j
            · exact HI.out i b' f' A' n' c' hij e hc
            · obtain rfl : i = j := by omega
              cases e
              have h9 := C1.out.symm.trans hc
              simp at h9
              omega
          case measure => simp [intOf]; omega
      · have HF : Hid (∀ i b f A' n' c', i < n → i < 40 → A = some ⟨b, f, none⟩ → wr.cell? ⟨b, f + i * 4 + 1, none⟩ = some (.slice A' n' c') → n' ≤ 300) := fun i b f A' n' c' _ h2 => HI.out i b f A' n' c' (by omega)
        go_wp2_with fail
        go_ret
        exact ⟨rfl, .inr ⟨rfl, HF.out⟩⟩
    · have hd : decide ((j : Int) < (n : Int)) = false := by simp; omega
      have HF : Hid (∀ i b f A' n' c', i < n → i < 40 → A = some ⟨b, f, none⟩ → wr.cell? ⟨b, f + i * 4 + 1, none⟩ = some (.slice A' n' c') → n' ≤ 300) := fun i b f A' n' c' h2 _ => HI.out i b f A' n' c' (by omega)
      go_wp2_with fail
      go_ret
      exact ⟨rfl, .inr ⟨rfl, HF.out⟩⟩
/-- What stands between two rounds. -/
def St (w wr : World) (gp g h g2 h2 j : Nat) : Prop :=
  Keeps [] w wr ∧ (w.heap.size ≤ gp ∧ w.heap.size ≤ g ∧ w.heap.size ≤ h ∧ w.heap.size ≤ g2 ∧ w.heap.size ≤ h2) ∧
  ((∃ rv, Blk wr gp 32 (pairC g g2 none rv)) ∨ ∃ gj hj gr hr k s J, PJ wr gp g h g2 h2 gj hj gr hr k s J ∧ s.ops ≤ 100 * j ∧ w.heap.size ≤ gj ∧ w.heap.size ≤ gr)
theorem OpenP.st {w w5 w6 : World} {gp g h g2 h2 j : Nat} {s : FS} {e : Ending} (hp : OpenP w5 gp g h g2 h2 s e w6) (k5 : Keeps [] w w5) (hb : w.heap.size ≤ gp ∧ w.heap.size ≤ g ∧ w.heap.size ≤ h ∧ w.heap.size ≤ g2 ∧ w.heap.size ≤ h2) (ho : s.ops ≤ 100 * j) : St w w6 gp g h g2 h2 j := by
  obtain ⟨_, k6, hor⟩ := hp
  have hs := k5.size
  refine ⟨k5.trans k6 (by simp; omega), hb, ?_⟩
  rcases hor with ⟨_, _, rv, b⟩ | ⟨gj, hj, gr, hr, k, J, p, h1, h2⟩
  · exact .inl ⟨rv, b⟩
  · exact .inr ⟨gj, hj, gr, hr, k, s, J, p, ho, by omega, by omega⟩
theorem St.next {w w5 w6 : World} {gp g h g2 h2 i j : Nat} (h9 : St w w5 gp g h g2 h2 i) (q : Keeps [] w5 w6) (hij : i ≤ j) : St w w6 gp g h g2 h2 j := by
  obtain ⟨k, hb, hor⟩ := h9
  refine ⟨k.trans q (by simp), hb, ?_⟩
  rcases hor with ⟨rv, b⟩ | ⟨gj, hj, gr, hr, k, s, J, p, h0, h1, h2⟩
  · exact .inl ⟨rv, q.blk b (by simp)⟩
  · exact .inr ⟨gj, hj, gr, hr, k, s, J, p.keep q, by omega, h1, h2⟩
/-- What is held while both are asked. -/
structure SK (gp g g2 gj gr bo : Nat) (kd : Int) (oA : Option Addr) (on oc : Nat) (oN : Int) (ov : UInt32) (w : World) : Prop where
  bp : Blk w gp 32 (pairC g g2 (some ⟨gj, 0, none⟩) (some ⟨gr, 0, none⟩))
  bo : Blk w bo 39 [.int .i64 kd, .slice oA on oc, .int .i64 oN, .int .u32 (ov.toNat : Int)]
section
variable {gp g g2 gj gr bo on oc : Nat} {kd oN : Int} {oA : Option Addr} {ov : UInt32} {S : List Nat} {w w' : World}
theorem SK.p0 (h : SK gp g g2 gj gr bo kd oA on oc oN ov w) : w.cell? ⟨gp, 0, none⟩ = some (.pointer (some ⟨g, 0, none⟩)) := h.bp.cell (j := 0) rfl
theorem SK.p1 (h : SK gp g g2 gj gr bo kd oA on oc oN ov w) : w.cell? ⟨gp, 1, none⟩ = some (.pointer (some ⟨g2, 0, none⟩)) := h.bp.cell (j := 1) rfl
theorem SK.p2 (h : SK gp g g2 gj gr bo kd oA on oc oN ov w) : w.cell? ⟨gp, 2, none⟩ = some (.pointer (some ⟨gj, 0, none⟩)) := h.bp.cell (j := 2) rfl
theorem SK.p3 (h : SK gp g g2 gj gr bo kd oA on oc oN ov w) : w.cell? ⟨gp, 3, none⟩ = some (.pointer (some ⟨gr, 0, none⟩)) := h.bp.cell (j := 3) rfl
theorem SK.o1 (h : SK gp g g2 gj gr bo kd oA on oc oN ov w) : w.cell? ⟨bo, 1, none⟩ = some (.slice oA on oc) := h.bo.cell (j := 1) rfl
theorem SK.o2 (h : SK gp g g2 gj gr bo kd oA on oc oN ov w) : w.cell? ⟨bo, 2, none⟩ = some (.int .i64 oN) := h.bo.cell (j := 2) rfl
theorem SK.o3 (h : SK gp g g2 gj gr bo kd oA on oc oN ov w) : w.cell? ⟨bo, 3, none⟩ = some (.int .u32 (ov.toNat : Int)) := h.bo.cell (j := 3) rfl
theorem SK.keep (h : SK gp g g2 gj gr bo kd oA on oc oN ov w) (q : Keeps S w w') (h1 : gp ∉ S) (h2 : bo ∉ S) : SK gp g g2 gj gr bo kd oA on oc oN ov w' := ⟨q.blk h.bp h1, q.blk h.bo h2⟩
end
theorem cutS_ws (s : FS) (n : Int) (m : UInt32) : (cutS s n m).ws = s.ws := by unfold cutS; split <;> rfl
theorem New_4 (w : World) : Calls Try.prog 7 #[.int .i64 4] w (Makes w (ofS (List.replicate (256 * 4) ones32))) := New_any 4 (by omega) (by omega) w
theorem rMade_4 (w : World) : Calls Try.prog 8 #[.int .i64 4] w (MakesR w (ofS (List.replicate (256 * 4) ones32))) := rMade_any 4 (by omega) (by omega) w
theorem Dis.turn {gp g h g2 h2 gj hj gr hr xj xr B : Nat} (d : Dis gp g h g2 h2 gj hj gr hr) (hx : xj = gp ∨ xj = hj ∨ B ≤ xj) (hy : xr = gp ∨ xr = hr ∨ B ≤ xr) (b1 : g < B) (b2 : h < B) (b3 : g2 < B) (b4 : h2 < B) (b5 : gj < B) (b6 : gr < B) : Dis gp g h g2 h2 gj xj gr xr := by
  obtain ⟨A1, A2, A3, A4, A5, A6⟩ := d
  refine ⟨A1, A2, A3, A4, ?_, ?_⟩
  · rcases hx with rfl | rfl | hx
    · exact ⟨A1.1, A1.2.1, A1.2.2.1, A1.2.2.2.1, A1.2.2.2.2.2⟩
    · exact A5
    · refine ⟨?_, ?_, ?_, ?_, ?_⟩ <;> omega
  · rcases hy with rfl | rfl | hy
    · exact ⟨A1.1, A1.2.1, A1.2.2.1, A1.2.2.2.1, A1.2.2.2.2.1⟩
    · exact A6
    · refine ⟨?_, ?_, ?_, ?_, ?_⟩ <;> omega
theorem PJ.keepS {S : List Nat} {w w' : World} {gp g h g2 h2 gj hj gr hr k : Nat} {s : FS} {J : JS} (p : PJ w gp g h g2 h2 gj hj gr hr k s J) (q : Keeps S w w') (hS : ∀ i ∈ S, i ≠ gp ∧ i ≠ g ∧ i ≠ h ∧ i ≠ g2 ∧ i ≠ h2 ∧ i ≠ gj ∧ i ≠ hj ∧ i ≠ gr ∧ i ≠ hr) : PJ w' gp g h g2 h2 gj hj gr hr k s J :=
  ⟨q.blk p.bp (fun hi => (hS _ hi).1 rfl), q.fl p.fl (fun hi => (hS _ hi).2.1 rfl) (fun hi => (hS _ hi).2.2.1 rfl), q.rf p.rf (fun hi => (hS _ hi).2.2.2.1 rfl) (fun hi => (hS _ hi).2.2.2.2.1 rfl),
    q.jr p.jr (fun hi => (hS _ hi).2.2.2.2.2.1 rfl) (fun hi => (hS _ hi).2.2.2.2.2.2.1 rfl), q.rj p.rj (fun hi => (hS _ hi).2.2.2.2.2.2.2.1 rfl) (fun hi => (hS _ hi).2.2.2.2.2.2.2.2 rfl), p.ds, p.len, p.kk, Nat.lt_of_lt_of_le p.lhj q.size, Nat.lt_of_lt_of_le p.lhr q.size⟩
theorem Keeps.of_own2 {w0 w w1 : World} {A : Option Addr} {n c B : Nat} {xs : List Value} (h : w.grownBy w1 (Value.slice A n c).ownBlock) (ho : w0.ownsRow B 37 1 (.slice A n c) n xs) : ∃ S, Keeps S w w1 ∧ ∀ i ∈ S, B ≤ i ∧ i < w0.heap.size := by
  rcases own_addr ho with h0 | ⟨y, h0, h1, h2⟩
  · subst h0
    exact ⟨[], ⟨h.os, h.tape, h.output, h.size, fun k hk _ => h.block k hk (by simp [Value.ownBlock])⟩, fun i hi => by cases hi⟩
  · subst h0
    refine ⟨[y], ⟨h.os, h.tape, h.output, h.size, fun k hk hS => h.block k hk (fun e => hS (by simp [Value.ownBlock] at e; simp [e]))⟩, fun i hi => ?_⟩
    rw [List.mem_singleton] at hi
    subst hi
    exact ⟨h1, h2⟩
set_option maxRecDepth 10000 in
theorem plays_walk (at_ : Int) (A : Option Addr) (n c : Nat) (os : List JO) (w : World) (_ha : (Lit.int .i64 at_).wf = true) (hr0 : JOps w A n c os) :
    Calls Try.prog 3 #[.int .i64 at_, .slice A n c] w fun e w' => e = .returned (.bool true) ∧ Below w.heap.size w w' := by
  have hm := hr0.max
  have hcap := hr0.cap
  unfold maxLen at hm
  obtain ⟨i0, hi, hz0, hz1, hz2⟩ := info_parts info32
  have HR := hide hr0
  go_enter Try.func3, Try.ntmps3
  go_wp2_with fail
  refine (light_says A n c os w hr0).mono ?_
  rintro e wz ⟨rfl, hor⟩
  clear hr0
  rcases hor with rfl | ⟨rfl, hlt3⟩
  · go_wp2_with (go_at_call 6; refine (known_any _).mono ?_; rintro e w13 ⟨rfl, k13⟩)
    go_ret
    exact ⟨rfl, k13.back⟩
  have HL3 := hide hlt3
  clear hlt3
  go_wp2_with fail
  refine (New_4 w).mono ?_
  obtain ⟨s0, hs0⟩ : ∃ s0, s0 = ofS (List.replicate (256 * 4) ones32) := ⟨_, rfl⟩
  have H0 : Hid (s0.ws.length = 1024 ∧ s0.ops = 0) := by rw [hs0]; exact ⟨List.length_replicate, rfl⟩
  rw [← hs0]
  have HS0 := hide hs0
  clear hs0
  rintro e w1 ⟨g, h, rfl, f1, k1, hg1, hh1⟩
  have b2 := Blk.new w1 32 [.pointer (some ⟨g, 0, none⟩), .pointer none, .pointer none, .pointer none]
  have k2 := (Keeps.refl [] w1).alloc (.cells #[.pointer (some ⟨g, 0, none⟩), .pointer none, .pointer none, .pointer none] 32)
  have hs2 : (w1.alloc (.cells #[.pointer (some ⟨g, 0, none⟩), .pointer none, .pointer none, .pointer none] 32)).heap.size = w1.heap.size + 1 := by simp
  have HB2 := hide (And.intro b2 (And.intro k2 hs2))
  clear b2 k2 hs2
  go_wp2_with fail
  generalize w1.alloc (.cells #[.pointer (some ⟨g, 0, none⟩), .pointer none, .pointer none, .pointer none] 32) = w2 at HB2 ⊢
  obtain ⟨b2, k2, hs2⟩ := HB2.out
  clear HB2
  obtain ⟨gp, hgp⟩ : ∃ gp, w1.heap.size = gp := ⟨_, rfl⟩
  rw [hgp] at b2 hs2
  refine (rMade_4 w2).mono ?_
  rw [← HS0.out]
  rintro e w3 ⟨g2, h2, rfl, r3, k3, hg2, hh2⟩
  rw [hgp]
  have b3 := k3.blk b2 (by simp)
  have f3 := k3.fl (k2.fl f1 (by simp) (by simp)) (by simp) (by simp)
  have l1 := f1.lt
  have l2 := f1.lt2
  have s1 := k1.size
  have k03 := (k1.trans k2 (by simp)).trans k3 (by simp)
  have s3 := k3.size
  have y1 : w3.cell? ⟨gp, 1, none⟩ = some (.pointer none) := b3.cell (j := 1) rfl
  have z1 := b3.frozen 1
  have b4 : Blk (w3.setCell ⟨gp, 1, none⟩ (.pointer (some ⟨g2, 0, none⟩))) gp 32 (pairC g g2 none none) := b3.set 1 _
  have k4 : Keeps [gp] w3 (w3.setCell ⟨gp, 1, none⟩ (.pointer (some ⟨g2, 0, none⟩))) := (Keeps.refl _ _).set (.inl (by simp)) _
  have f4 := k4.fl f3 (by simp; omega) (by simp; omega)
  have r4 := k4.rf r3 (by simp; omega) (by simp; omega)
  have k04 := k03.trans k4 (by simp; omega)
  have y0 : (w3.setCell ⟨gp, 1, none⟩ (.pointer (some ⟨g2, 0, none⟩))).cell? ⟨gp, 0, none⟩ = some (.pointer (some ⟨g, 0, none⟩)) := b4.cell (j := 0) rfl
  have H4 := hide (And.intro b4 (And.intro f4 (And.intro r4 k04)))
  clear b2 b3 b4 f1 f3 f4 r3 r4 k1 k2 k3 k4 k03 k04
  go_wp2_with (go_at_call 9; refine (pair_open gp g h g2 h2 none none s0 at_ _ H4.out.1 H4.out.2.1 H4.out.2.2.1 H0.out.1 (by omega) (by omega) (by omega) (by omega) (by omega) (by omega) (by omega) (by omega)).mono ?_; rintro e w5 hop; obtain rfl := hop.1; have st5 : St w w5 gp g h g2 h2 0 := hop.st H4.out.2.2.2 (by omega) (by have := H0.out.2; omega); clear hop)
  have HD : Hid (gp ≠ g ∧ gp ≠ h ∧ gp ≠ g2 ∧ gp ≠ h2 ∧ g ≠ g2 ∧ g ≠ h2 ∧ h ≠ g2 ∧ h ≠ h2) := by refine ⟨?_, ?_, ?_, ?_, ?_, ?_, ?_, ?_⟩ <;> omega
  clear H4 HS0 H0 y0 y1 z1 hg1 hh1 hg2 hh2 l1 l2 s1 s3 hs2 hgp
  go_loopw [8] (fun i wr => ∃ j : Nat, j ≤ n ∧ j ≤ 40 ∧ i = .int .i64 (j : Int) ∧ St w wr gp g h g2 h2 j) (fun i _ => 40 - (intOf i).toNat)
  case atStart => exact ⟨0, by omega, by omega, rfl, st5⟩
  case round =>
    clear st5
    generalize wr = wb at hrel ⊢
    obtain ⟨j, hj1, hj2, rfl, k0, hbs, hst⟩ := hrel
    have hks := k0.size
    rcases hst with ⟨rv, bc⟩ | ⟨gj, hj, gr, hr, k, s, J, p, hops, hgj, hgr⟩
    · have y2 : wb.cell? ⟨gp, 2, none⟩ = some (.pointer none) := bc.cell (j := 2) rfl
      by_cases hlt : j < n
      · have d1 : decide ((j : Int) < (n : Int)) = true := by simp; omega
        by_cases hl4 : j < 40
        · have d2 : decide ((j : Int) < 40) = true := by simp; omega
          go_wp2_with (go_at_call 6; refine (known_any _).mono ?_; rintro e w13 ⟨rfl, k13⟩)
          go_ret
          exact ⟨rfl, (k0.trans k13 (by simp)).back⟩
        · have d2 : decide ((j : Int) < 40) = false := by simp; omega
          go_wp2_with (go_at_call 6; refine (known_any _).mono ?_; rintro e w13 ⟨rfl, k13⟩)
          go_ret
          exact ⟨rfl, (k0.trans k13 (by simp)).back⟩
      · have d1 : decide ((j : Int) < (n : Int)) = false := by simp; omega
        go_wp2_with (go_at_call 6; refine (known_any _).mono ?_; rintro e w13 ⟨rfl, k13⟩)
        go_ret
        exact ⟨rfl, (k0.trans k13 (by simp)).back⟩
    · have y2 : wb.cell? ⟨gp, 2, none⟩ = some (.pointer (some ⟨gj, 0, none⟩)) := p.bp.cell (j := 2) rfl
      by_cases hlt : j < n ∧ j < 40
      · have hlt1 := hlt.1
        have d1 : decide ((j : Int) < (n : Int)) = true := by simp; omega
        have d2 : decide ((j : Int) < 40) = true := by simp; omega
        obtain ⟨b, f, o, rfl, hbB, c0, c1, c2, c3, hro, hoN, hk1, hk2⟩ := HR.out.get k0 hlt1
        obtain ⟨kd, oA, on, oc, ol, oN, ov⟩ := o
        have hon3 : on ≤ 300 := HL3.out j b f oA on oc hlt.1 hlt.2 rfl ((k0.back.cell (p := ⟨b, f + j * 4 + 1, none⟩) hbB).symm.trans c1)
        have hi1 : (j : Int) < (n : Int) := by omega
        have HLT := hide hlt
        have HDS := hide p.ds
        have lp := p.bp.lt
        have lg := p.fl.lt
        have lh := p.fl.lt2
        have lg2 := p.rf.lt
        have lh2 := p.rf.lt2
        have lj := p.jr.lt
        have lr := p.rj.lt
        have lhj := p.lhj
        have lhr := p.lhr
        obtain ⟨s1, hs1⟩ : ∃ s1, jS s k J ol = s1 := ⟨_, rfl⟩
        obtain ⟨q, hq⟩ : ∃ q, jE s k J ol = q := ⟨_, rfl⟩
        obtain ⟨J1, hJ1⟩ : ∃ J1, jJ s k J ol = J1 := ⟨_, rfl⟩
        have HP : Hid (s1.ws.length = s.ws.length ∧ s1.ops ≤ s.ops + 70) := by
          rw [← hs1]
          obtain ⟨_, _, _, _, _, _, hl9⟩ := p.rj.ex
          exact play_spec s k J ol p.jr.good (fun hd => (hl9 hd).1) (by rw [p.len]; have := p.kk; omega)
        have HS := hide (And.intro hs1 (And.intro hq hJ1))
        clear hlt hs1 hq hJ1 hlt1
        by_cases h0 : kd = 0
        · subst h0
          have b2 := Blk.new wb 39 [.int .i64 0, .slice oA on oc, .int .i64 oN, .int .u32 (ov.toNat : Int)]
          have k2 := (Keeps.refl [] wb).alloc (.cells #[.int .i64 0, .slice oA on oc, .int .i64 oN, .int .u32 (ov.toNat : Int)] 39)
          have hs2 : (wb.alloc (.cells #[.int .i64 0, .slice oA on oc, .int .i64 oN, .int .u32 (ov.toNat : Int)] 39)).heap.size = wb.heap.size + 1 := by simp
          obtain ⟨W2, hW2⟩ : ∃ W2, W2 = wb.alloc (.cells #[.int .i64 0, .slice oA on oc, .int .i64 oN, .int .u32 (ov.toNat : Int)] 39) := ⟨_, rfl⟩
          rw [← hW2] at b2 k2 hs2
          have HW2 := hide hW2
          have row2 := k2.row hro (by omega) (by simp)
          have z1 : W2.cell? ⟨wb.heap.size, 1, none⟩ = some (.slice oA on oc) := b2.cell (j := 1) rfl
          have z0 : W2.cell? ⟨wb.heap.size, 0, none⟩ = some (.int .i64 0) := b2.cell (j := 0) rfl
          rw [hW2] at z0 z1
          have H2 := hide (And.intro b2 (And.intro k2 (And.intro row2 hs2)))
          clear hW2 b2 k2 row2 hs2
          go_wp2_with (at_builtin; rw [← HW2.out]; refine wpList_append_row rfl (.tmp 71) (.tmp 73) 36 rfl W2.heap.size 37 i0 _ 4 Try.underlying36 hi hz0 hz1 hz2 rfl _ 0 [] rfl (World.ownsRow_nil _ _ _ _) w.heap.size _ _ _ _ rfl H2.out.2.2.1 (cs32_one ol) (by unfold maxLen; omega) (by omega) W2 (Below.refl _ _) (Nat.le_refl _) ?_; intro A6 c6 w6 ho6 hb6 hg6; simp only [Nat.zero_add, List.nil_append] at ho6 ⊢)
          obtain ⟨b2, k2, row2, hs2⟩ := H2.out
          obtain ⟨bo, hbo⟩ : ∃ bo, wb.heap.size = bo := ⟨_, rfl⟩
          have k6 : Keeps [] W2 w6 := Keeps.of_below hb6
          have k07 : Keeps [] w w6.drew := ((k0.trans k2 (by simp)).trans k6 (by simp)).drew
          have k27 : Keeps [] wb w6.drew := (k2.trans k6 (by simp)).drew
          have p7 := p.keep k27
          have o7b : w6.drew.ownsRow W2.heap.size 37 1 (.slice A6 on c6) on (cs32 ol) := ho6
          have o7 : w6.drew.ownsRow 0 37 1 (.slice A6 on c6) on (cs32 ol) := own_base (Nat.zero_le _) ho6
          have row7 : Row w6.drew w.heap.size oA on oc (cs32 ol) := (k6.drew).row row2 (by omega) (by simp)
          rw [hbo] at b2
          have S7 : SK gp g g2 gj gr bo 0 oA on oc oN ov w6.drew := ⟨p7.bp, (k6.drew).blk b2 (by simp)⟩
          have hs7 : W2.heap.size ≤ w6.drew.heap.size := hb6.size
          clear ho6 hb6 hg6 b2 k2 row2 k6 k27 z0 z1 H2
          refine wp_region_held_drew (S := SK gp g g2 gj gr bo 0 oA on oc oN ov) (by kernel_rfl) S7 (fun hS0 => ?_)
          generalize w6.drew = w7 at k07 p7 o7b o7 row7 S7 hs7 hS0 ⊢
          refine wpAnyH_take (i := 0) (v := .pointer (some ⟨gp, 0, none⟩)) rfl (by kernel_rfl) (by kernel_rfl) (by kernel_rfl) (fun _ _ _ h => h) (Or.inl ⟨by rfl, fun w _ => by go_simp⟩) (by assumption) ?_
          simp only [List.getElem_toArray, List.getElem_cons_zero, Act.put, List.setIfInBounds_toArray, List.set_cons_zero, List.set_cons_succ]
          refine wpAnyH_take (i := 1) (v := .pointer (some ⟨gp, 0, none⟩)) rfl (by kernel_rfl) (by kernel_rfl) (by kernel_rfl) (fun _ _ _ h => h) (Or.inl ⟨by rfl, fun w _ => by go_simp⟩) (by assumption) ?_
          simp only [List.getElem_toArray, List.getElem_cons_zero, List.getElem_cons_succ, Act.put, List.setIfInBounds_toArray, List.set_cons_zero, List.set_cons_succ]
          refine wpAnyH_take (i := 2) (v := .pointer (some ⟨gp, 2, none⟩)) rfl (by kernel_rfl) (by kernel_rfl) (by kernel_rfl) (fun _ _ _ h => h) (Or.inl ⟨by rfl, fun w _ => by go_simp⟩) (by assumption) ?_
          simp only [List.getElem_toArray, List.getElem_cons_zero, List.getElem_cons_succ, Act.put, List.setIfInBounds_toArray, List.set_cons_zero, List.set_cons_succ]
          refine wpAnyH_take (i := 3) (v := .pointer (some ⟨gj, 0, none⟩)) rfl (by kernel_rfl) (by kernel_rfl) (by kernel_rfl) (fun _ _ _ h => h) (Or.inl ⟨by rfl, fun w h => by have h9 := (SK.p2 h); go_simp⟩) (by assumption) ?_
          simp only [List.getElem_toArray, List.getElem_cons_zero, List.getElem_cons_succ, Act.put, List.setIfInBounds_toArray, List.set_cons_zero, List.set_cons_succ]
          refine wpAnyH_take (i := 4) (v := .slice A6 on c6) rfl (by kernel_rfl) (by kernel_rfl) (by kernel_rfl) (fun _ _ _ h => h) (Or.inl ⟨by rfl, fun w _ => by go_simp⟩) (by assumption) ?_
          simp only [List.getElem_toArray, List.getElem_cons_zero, List.getElem_cons_succ, Act.put, List.setIfInBounds_toArray, List.set_cons_zero, List.set_cons_succ]
          refine wpAnyH_take (i := 6) (v := .pointer (some ⟨gp, 0, none⟩)) rfl (by kernel_rfl) (by kernel_rfl) (by kernel_rfl) (fun _ _ _ h => h) (Or.inl ⟨by rfl, fun w _ => by go_simp⟩) (by assumption) ?_
          simp only [List.getElem_toArray, List.getElem_cons_zero, List.getElem_cons_succ, Act.put, List.setIfInBounds_toArray, List.set_cons_zero, List.set_cons_succ]
          refine wpAnyH_take (i := 7) (v := .pointer (some ⟨gp, 0, none⟩)) rfl (by kernel_rfl) (by kernel_rfl) (by kernel_rfl) (fun _ _ _ h => h) (Or.inl ⟨by rfl, fun w _ => by go_simp⟩) (by assumption) ?_
          simp only [List.getElem_toArray, List.getElem_cons_zero, List.getElem_cons_succ, Act.put, List.setIfInBounds_toArray, List.set_cons_zero, List.set_cons_succ]
          refine wpAnyH_take (i := 8) (v := .pointer (some ⟨gp, 3, none⟩)) rfl (by kernel_rfl) (by kernel_rfl) (by kernel_rfl) (fun _ _ _ h => h) (Or.inl ⟨by rfl, fun w _ => by go_simp⟩) (by assumption) ?_
          simp only [List.getElem_toArray, List.getElem_cons_zero, List.getElem_cons_succ, Act.put, List.setIfInBounds_toArray, List.set_cons_zero, List.set_cons_succ]
          refine wpAnyH_take (i := 9) (v := .pointer (some ⟨gr, 0, none⟩)) rfl (by kernel_rfl) (by kernel_rfl) (by kernel_rfl) (fun _ _ _ h => h) (Or.inl ⟨by rfl, fun w h => by have h9 := (SK.p3 h); go_simp⟩) (by assumption) ?_
          simp only [List.getElem_toArray, List.getElem_cons_zero, List.getElem_cons_succ, Act.put, List.setIfInBounds_toArray, List.set_cons_zero, List.set_cons_succ]
          refine wpAnyH_take (i := 10) (v := .pointer (some ⟨bo, 1, none⟩)) rfl (by kernel_rfl) (by kernel_rfl) (by kernel_rfl) (fun _ _ _ h => h) (Or.inl ⟨by rfl, fun w _ => by go_simp⟩) (by assumption) ?_
          simp only [List.getElem_toArray, List.getElem_cons_zero, List.getElem_cons_succ, Act.put, List.setIfInBounds_toArray, List.set_cons_zero, List.set_cons_succ]
          refine wpAnyH_take (i := 11) (v := .slice oA on oc) rfl (by kernel_rfl) (by kernel_rfl) (by kernel_rfl) (fun _ _ _ h => h) (Or.inl ⟨by rfl, fun w h => by have h9 := (SK.o1 h); go_simp⟩) (by assumption) ?_
          simp only [List.getElem_toArray, List.getElem_cons_zero, List.getElem_cons_succ, Act.put, List.setIfInBounds_toArray, List.set_cons_zero, List.set_cons_succ]
          refine wpAnyH_ready (rs := [5]) (by kernel_rfl) (by simp) ?_
          refine AllReadyH.cons rfl (fun K hKK => ?_) AllReadyH.nil
          go_simp
          refine (Append_any gj hj g h k on c6 A6 ol J s w7 p7.jr (by have q9 := HDS.out; unfold Dis at q9; obtain ⟨⟨_, _, _, _, _, _⟩, ⟨_, _, _, _, _⟩, ⟨_, _, _, _⟩, ⟨_, _, _, _⟩, ⟨_, _, _, _, _⟩, ⟨_, _, _, _, _⟩⟩ := q9; first | assumption | (apply Ne.symm; assumption)) (by have q9 := HDS.out; unfold Dis at q9; obtain ⟨⟨_, _, _, _, _, _⟩, ⟨_, _, _, _, _⟩, ⟨_, _, _, _⟩, ⟨_, _, _, _⟩, ⟨_, _, _, _, _⟩, ⟨_, _, _, _, _⟩⟩ := q9; first | assumption | (apply Ne.symm; assumption)) (by have q9 := HDS.out; unfold Dis at q9; obtain ⟨⟨_, _, _, _, _, _⟩, ⟨_, _, _, _, _⟩, ⟨_, _, _, _⟩, ⟨_, _, _, _⟩, ⟨_, _, _, _, _⟩, ⟨_, _, _, _, _⟩⟩ := q9; first | assumption | (apply Ne.symm; assumption)) (by have q9 := HDS.out; unfold Dis at q9; obtain ⟨⟨_, _, _, _, _, _⟩, ⟨_, _, _, _, _⟩, ⟨_, _, _, _⟩, ⟨_, _, _, _⟩, ⟨_, _, _, _, _⟩, ⟨_, _, _, _, _⟩⟩ := q9; first | assumption | (apply Ne.symm; assumption)) p7.fl (Row.of_own o7) (fun x e => by rcases own_addr o7b with h0 | ⟨y, h0, h00, _⟩; rw [h0] at e; cases e; rw [h0] at e; cases e; simp; omega) (by rw [p7.len]; have := p7.kk; omega) (by omega)).mono ?_
          rw [HS.out.1, HS.out.2.1, HS.out.2.2]
          rintro e w8 ⟨rfl, f8, k8, hj8, hor8, j8⟩
          have r8 := k8.rf p7.rf (by have q9 := HDS.out; unfold Dis at q9; obtain ⟨⟨_, _, _, _, _, _⟩, ⟨_, _, _, _, _⟩, ⟨_, _, _, _⟩, ⟨_, _, _, _⟩, ⟨_, _, _, _, _⟩, ⟨_, _, _, _, _⟩⟩ := q9; simp only [List.mem_cons, List.not_mem_nil, or_false, not_or]; refine ⟨?_, ?_, ?_⟩ <;> first | assumption | (apply Ne.symm; assumption)) (by have q9 := HDS.out; unfold Dis at q9; obtain ⟨⟨_, _, _, _, _, _⟩, ⟨_, _, _, _, _⟩, ⟨_, _, _, _⟩, ⟨_, _, _, _⟩, ⟨_, _, _, _, _⟩, ⟨_, _, _, _, _⟩⟩ := q9; simp only [List.mem_cons, List.not_mem_nil, or_false, not_or]; refine ⟨?_, ?_, ?_⟩ <;> first | assumption | (apply Ne.symm; assumption))
          have rj8 := k8.rj p7.rj (by have q9 := HDS.out; unfold Dis at q9; obtain ⟨⟨_, _, _, _, _, _⟩, ⟨_, _, _, _, _⟩, ⟨_, _, _, _⟩, ⟨_, _, _, _⟩, ⟨_, _, _, _, _⟩, ⟨_, _, _, _, _⟩⟩ := q9; simp only [List.mem_cons, List.not_mem_nil, or_false, not_or]; refine ⟨?_, ?_, ?_⟩ <;> first | assumption | (apply Ne.symm; assumption)) (by have q9 := HDS.out; unfold Dis at q9; obtain ⟨⟨_, _, _, _, _, _⟩, ⟨_, _, _, _, _⟩, ⟨_, _, _, _⟩, ⟨_, _, _, _⟩, ⟨_, _, _, _, _⟩, ⟨_, _, _, _, _⟩⟩ := q9; simp only [List.mem_cons, List.not_mem_nil, or_false, not_or]; refine ⟨?_, ?_, ?_⟩ <;> first | assumption | (apply Ne.symm; assumption))
          have S8 := S7.keep k8 (by have q9 := HDS.out; unfold Dis at q9; obtain ⟨⟨_, _, _, _, _, _⟩, ⟨_, _, _, _, _⟩, ⟨_, _, _, _⟩, ⟨_, _, _, _⟩, ⟨_, _, _, _, _⟩, ⟨_, _, _, _, _⟩⟩ := q9; simp only [List.mem_cons, List.not_mem_nil, or_false, not_or]; refine ⟨?_, ?_, ?_⟩ <;> first | assumption | (apply Ne.symm; assumption)) (by simp; omega)
          have o8 := k8.own o7 (fun x e => by rcases own_addr o7b with h0 | ⟨y, h0, h00, _⟩; rw [h0] at e; cases e; rw [h0] at e; cases e; simp; omega)
          have row8 := k8.row row7 (by omega) (by simp; omega)
          have k08 : Keeps [] w w8 := k07.trans k8 (by simp; omega)
          have hs8 := k8.size
          refine hKK.out _ _ (S8) (fun hS5 => ?_)
          clear hKK
          refine wpAnyH_ready (rs := [12]) (by kernel_rfl) (by simp) ?_
          refine AllReadyH.cons rfl (fun K hKK => ?_) AllReadyH.nil
          go_simp
          refine (rAppend_any gr hr g2 h2 k on oc oA ol J s w8 rj8 (by have q9 := HDS.out; unfold Dis at q9; obtain ⟨⟨_, _, _, _, _, _⟩, ⟨_, _, _, _, _⟩, ⟨_, _, _, _⟩, ⟨_, _, _, _⟩, ⟨_, _, _, _, _⟩, ⟨_, _, _, _, _⟩⟩ := q9; first | assumption | (apply Ne.symm; assumption)) (by have q9 := HDS.out; unfold Dis at q9; obtain ⟨⟨_, _, _, _, _, _⟩, ⟨_, _, _, _, _⟩, ⟨_, _, _, _⟩, ⟨_, _, _, _⟩, ⟨_, _, _, _, _⟩, ⟨_, _, _, _, _⟩⟩ := q9; first | assumption | (apply Ne.symm; assumption)) (by have q9 := HDS.out; unfold Dis at q9; obtain ⟨⟨_, _, _, _, _, _⟩, ⟨_, _, _, _, _⟩, ⟨_, _, _, _⟩, ⟨_, _, _, _⟩, ⟨_, _, _, _, _⟩, ⟨_, _, _, _, _⟩⟩ := q9; first | assumption | (apply Ne.symm; assumption)) (by have q9 := HDS.out; unfold Dis at q9; obtain ⟨⟨_, _, _, _, _, _⟩, ⟨_, _, _, _, _⟩, ⟨_, _, _, _⟩, ⟨_, _, _, _⟩, ⟨_, _, _, _, _⟩, ⟨_, _, _, _, _⟩⟩ := q9; first | assumption | (apply Ne.symm; assumption)) r8 (row8.more (by omega)) (fun hn a e => by obtain ⟨b', o', e', hlt', _⟩ := row8.cells hn; rw [e'] at e; cases e; simp; omega) (by rw [p7.len]; have := p7.kk; omega) (by omega)).mono ?_
          rw [HS.out.1, HS.out.2.1, HS.out.2.2]
          rintro e w9 ⟨rfl, r9, k9, hr9, hor9, rj9⟩
          have f9 := k9.fl f8 (by have q9 := HDS.out; unfold Dis at q9; obtain ⟨⟨_, _, _, _, _, _⟩, ⟨_, _, _, _, _⟩, ⟨_, _, _, _⟩, ⟨_, _, _, _⟩, ⟨_, _, _, _, _⟩, ⟨_, _, _, _, _⟩⟩ := q9; simp only [List.mem_cons, List.not_mem_nil, or_false, not_or]; refine ⟨?_, ?_, ?_⟩ <;> first | assumption | (apply Ne.symm; assumption)) (by have q9 := HDS.out; unfold Dis at q9; obtain ⟨⟨_, _, _, _, _, _⟩, ⟨_, _, _, _, _⟩, ⟨_, _, _, _⟩, ⟨_, _, _, _⟩, ⟨_, _, _, _, _⟩, ⟨_, _, _, _, _⟩⟩ := q9; simp only [List.mem_cons, List.not_mem_nil, or_false, not_or]; refine ⟨?_, ?_, ?_⟩ <;> first | assumption | (apply Ne.symm; assumption))
          have S9 := S8.keep k9 (by have q9 := HDS.out; unfold Dis at q9; obtain ⟨⟨_, _, _, _, _, _⟩, ⟨_, _, _, _, _⟩, ⟨_, _, _, _⟩, ⟨_, _, _, _⟩, ⟨_, _, _, _, _⟩, ⟨_, _, _, _, _⟩⟩ := q9; simp only [List.mem_cons, List.not_mem_nil, or_false, not_or]; refine ⟨?_, ?_, ?_⟩ <;> first | assumption | (apply Ne.symm; assumption)) (by simp; omega)
          have o9 := k9.own o8 (fun x e => by rcases own_addr o7b with h0 | ⟨y, h0, h00, _⟩; rw [h0] at e; cases e; rw [h0] at e; cases e; simp; omega)
          have row9 := k9.row row8 (by omega) (by simp; omega)
          have k09 : Keeps [] w w9 := k08.trans k9 (by simp; omega)
          have hs9 := k9.size
          have hj8n : hj8 ∉ [gr, g2, h2] := by
            rcases hor8 with e8 | e8
            · rw [e8]; have q9 := HDS.out; unfold Dis at q9; obtain ⟨⟨_, _, _, _, _, _⟩, ⟨_, _, _, _, _⟩, ⟨_, _, _, _⟩, ⟨_, _, _, _⟩, ⟨_, _, _, _, _⟩, ⟨_, _, _, _, _⟩⟩ := q9; simp only [List.mem_cons, List.not_mem_nil, or_false, not_or]; refine ⟨?_, ?_, ?_⟩ <;> first | assumption | (apply Ne.symm; assumption)
            · simp; omega
          obtain ⟨xj, j9, hxj⟩ := k9.jr_real (gp := gp) j8 (by have q9 := HDS.out; unfold Dis at q9; obtain ⟨⟨_, _, _, _, _, _⟩, ⟨_, _, _, _, _⟩, ⟨_, _, _, _⟩, ⟨_, _, _, _⟩, ⟨_, _, _, _, _⟩, ⟨_, _, _, _, _⟩⟩ := q9; simp only [List.mem_cons, List.not_mem_nil, or_false, not_or]; refine ⟨?_, ?_, ?_⟩ <;> first | assumption | (apply Ne.symm; assumption)) hj8n (by have q9 := HDS.out; unfold Dis at q9; obtain ⟨⟨_, _, _, _, _, _⟩, ⟨_, _, _, _, _⟩, ⟨_, _, _, _⟩, ⟨_, _, _, _⟩, ⟨_, _, _, _, _⟩, ⟨_, _, _, _, _⟩⟩ := q9; first | assumption | (apply Ne.symm; assumption))
          obtain ⟨xr, rj9', hxr⟩ := (Keeps.refl [] w9).rj_real (gp := gp) rj9 (by simp) (by simp) (by have q9 := HDS.out; unfold Dis at q9; obtain ⟨⟨_, _, _, _, _, _⟩, ⟨_, _, _, _, _⟩, ⟨_, _, _, _⟩, ⟨_, _, _, _⟩, ⟨_, _, _, _, _⟩, ⟨_, _, _, _, _⟩⟩ := q9; first | assumption | (apply Ne.symm; assumption))
          have p9 : PJ w9 gp g h g2 h2 gj xj gr xr k s1 J1 := ⟨S9.bp, f9, r9, j9, rj9', HDS.out.turn (B := w7.heap.size) (by omega) (by omega) (by omega) (by omega) (by omega) (by omega) (by omega) (by omega), by have := HP.out.1; have := p7.len; omega, p7.kk, by omega, by omega⟩
          refine hKK.out _ _ (S9) (fun hS12 => ?_)
          clear hKK
          refine wpAnyH_take (i := 13) (v := .bool false) rfl (by kernel_rfl) (by kernel_rfl) (by kernel_rfl) (fun _ _ _ h => h) (Or.inl ⟨by rfl, fun w _ => by go_simp⟩) (by assumption) ?_
          simp only [List.getElem_toArray, List.getElem_cons_zero, List.getElem_cons_succ, Act.put, List.setIfInBounds_toArray, List.set_cons_zero, List.set_cons_succ]
          refine wpAnyH_take (i := 14) (v := .bool false) rfl (by kernel_rfl) (by kernel_rfl) (by kernel_rfl) (fun _ _ _ h => h) (Or.inl ⟨by rfl, fun w _ => by go_simp⟩) (by assumption) ?_
          simp only [List.getElem_toArray, List.getElem_cons_zero, List.getElem_cons_succ, Act.put, List.setIfInBounds_toArray, List.set_cons_zero, List.set_cons_succ]
          refine wpAnyH_take (i := 15) (v := .slice A6 on c6) rfl (by kernel_rfl) (by kernel_rfl) (by kernel_rfl) (fun _ _ _ h => h) (Or.inl ⟨by rfl, fun w _ => by go_simp⟩) (by assumption) ?_
          simp only [List.getElem_toArray, List.getElem_cons_zero, List.getElem_cons_succ, Act.put, List.setIfInBounds_toArray, List.set_cons_zero, List.set_cons_succ]
          refine wpAnyH_take (i := 16) (v := .pointer (some ⟨bo, 1, none⟩)) rfl (by kernel_rfl) (by kernel_rfl) (by kernel_rfl) (fun _ _ _ h => h) (Or.inl ⟨by rfl, fun w _ => by go_simp⟩) (by assumption) ?_
          simp only [List.getElem_toArray, List.getElem_cons_zero, List.getElem_cons_succ, Act.put, List.setIfInBounds_toArray, List.set_cons_zero, List.set_cons_succ]
          refine wpAnyH_take (i := 17) (v := .slice oA on oc) rfl (by kernel_rfl) (by kernel_rfl) (by kernel_rfl) (fun _ _ _ h => h) (Or.inl ⟨by rfl, fun w h => by have h9 := (SK.o1 h); go_simp⟩) (by assumption) ?_
          simp only [List.getElem_toArray, List.getElem_cons_zero, List.getElem_cons_succ, Act.put, List.setIfInBounds_toArray, List.set_cons_zero, List.set_cons_succ]
          refine wpAnyH_ready (rs := [18]) (by kernel_rfl) (by simp) ?_
          refine AllReadyH.cons rfl (fun K hKK => ?_) AllReadyH.nil
          go_simp
          refine (Same_any _ _ _ _ _ _ _ _ ol _ (Row.of_own o9) row9).mono ?_
          rintro e wz ⟨t10, rfl, rfl⟩
          have k10 : Keeps [] w9 (w9.drewN t10) := (Keeps.refl _ _).drewN _
          have S10 := S9.keep k10 (by simp) (by simp)
          have p10 := p9.keep k10
          have o10 := k10.own o9 (by simp)
          have k010 := k09.trans k10 (by simp)
          have hs10 := k10.size
          clear o9 p9 k09 k10
          generalize w9.drewN t10 = w10 at S10 p10 o10 k010 hs10 ⊢
          refine hKK.out _ _ (S10) (fun hS18 => ?_)
          clear hKK
          refine wpAnyH_take (i := 19) (v := .bool false) rfl (by kernel_rfl) (by kernel_rfl) (by kernel_rfl) (fun _ _ _ h => h) (Or.inl ⟨by rfl, fun w _ => by go_simp⟩) (by assumption) ?_
          simp only [List.getElem_toArray, List.getElem_cons_zero, List.getElem_cons_succ, Act.put, List.setIfInBounds_toArray, List.set_cons_zero, List.set_cons_succ]
          refine wpAnyH_take (i := 20) (v := .bool false) rfl (by kernel_rfl) (by kernel_rfl) (by kernel_rfl) (fun _ _ _ h => h) (Or.inl ⟨by rfl, fun w _ => by go_simp⟩) (by assumption) ?_
          simp only [List.getElem_toArray, List.getElem_cons_zero, List.getElem_cons_succ, Act.put, List.setIfInBounds_toArray, List.set_cons_zero, List.set_cons_succ]
          refine wpAnyH_done (by kernel_rfl) ?_ _
          go_wp2
          have HGX := hide o7b
          clear hS0 hS5 hS12 hS18 S7 S8 S9 o7 o8 o7b row7 row8 row9 p7 f8 r8 rj8 j8 f9 r9 rj9 j9 rj9' S10
          go_loopw [11] (fun i wq => ∃ (t : Nat) (zs : List Value), t ≤ on ∧ i = .int .i64 (t : Int) ∧ wq.ownsRow 0 37 1 (.slice A6 on c6) on zs ∧ w10.grownBy wq (Value.slice A6 on c6).ownBlock) (fun i _ => on - (intOf i).toNat)
          case atStart => exact ⟨0, _, Nat.zero_le _, rfl, o10, World.grownBy.refl _ _⟩
          case round =>
            clear o10
            obtain ⟨t, zs, ht9, rfl, ho, hb⟩ := hrel
            by_cases hltt : t < on
            · obtain ⟨gx, rfl⟩ := own_some ho (by omega)
              have hzl := ho.1
              have hc := ho.cellAt t (by omega)
              rw [List.getElem?_eq_getElem (by omega)] at hc
              have hfz := ho.frozenAt t
              have HST := hide (ho.stored t (.int .u32 9))
              clear ho
              generalize zs[t] = u at hc
              clear hzl
              go_wp2
              go_roundw
              case rel => exact ⟨t + 1, _, by omega, by go_num, HST.out.1, grown_trans hb HST.out.2⟩
              case measure => simp [intOf]; omega
            · obtain rfl : on = t := by omega
              generalize wr = w11 at *
              obtain ⟨S, kx, hS⟩ := Keeps.of_own2 hb HGX.out
              have p11 := p10.keepS kx (fun i hi => by have := hS i hi; refine ⟨?_, ?_, ?_, ?_, ?_, ?_, ?_, ?_, ?_⟩ <;> omega)
              have k011 : Keeps [] w w11 := k010.trans kx (fun i hi => by have := hS i hi; right; omega)
              have y211 : w11.cell? ⟨gp, 2, none⟩ = some (.pointer (some ⟨gj, 0, none⟩)) := p11.bp.cell (j := 2) rfl
              clear hb ho kx p10 k010
              go_wp2_with (go_at_call 17; refine (pair_alike gp g h g2 h2 _ _ _ _ _ _ _ _ p11).mono ?_; rintro e w12 ⟨rfl, k12⟩)
              have hp2 := HP.out.2
              have hlt9 := HLT.out
              go_roundw
              case rel => exact ⟨j + 1, by omega, by omega, by go_num, k011.trans k12 (by simp), hbs, .inr ⟨gj, xj, gr, xr, k, s1, J1, p11.keep k12, by omega, hgj, hgr⟩⟩
              case measure => simp [intOf]; omega
        · by_cases h1 : kd = 1
          · subst h1
            have b2 := Blk.new wb 39 [.int .i64 1, .slice oA on oc, .int .i64 oN, .int .u32 (ov.toNat : Int)]
            have k2 := (Keeps.refl [] wb).alloc (.cells #[.int .i64 1, .slice oA on oc, .int .i64 oN, .int .u32 (ov.toNat : Int)] 39)
            have hs2 : (wb.alloc (.cells #[.int .i64 1, .slice oA on oc, .int .i64 oN, .int .u32 (ov.toNat : Int)] 39)).heap.size = wb.heap.size + 1 := by simp
            have z0 : (wb.alloc (.cells #[.int .i64 1, .slice oA on oc, .int .i64 oN, .int .u32 (ov.toNat : Int)] 39)).cell? ⟨wb.heap.size, 0, none⟩ = some (.int .i64 1) := b2.cell (j := 0) rfl
            have H2 := hide (And.intro b2 (And.intro k2 hs2))
            clear b2 k2 hs2
            go_wp2_with fail
            obtain ⟨b2, k2, hs2⟩ := H2.out
            obtain ⟨bo, hbo⟩ : ∃ bo, wb.heap.size = bo := ⟨_, rfl⟩
            generalize wb.alloc (.cells #[.int .i64 1, .slice oA on oc, .int .i64 oN, .int .u32 (ov.toNat : Int)] 39) = W2 at b2 k2 hs2 z0 H2 ⊢
            rw [hbo] at b2 ⊢
            have k07 : Keeps [] w W2.drew := (k0.trans k2 (by simp)).drew
            have p7 := p.keep k2.drew
            have S7 : SK gp g g2 gj gr bo 1 oA on oc oN ov W2.drew := ⟨p7.bp, b2.drew⟩
            have hs7 : W2.heap.size ≤ W2.drew.heap.size := Nat.le_refl _
            clear b2 k2 z0 H2
            refine wp_region_held_drew (S := SK gp g g2 gj gr bo 1 oA on oc oN ov) (by kernel_rfl) S7 (fun hS0 => ?_)
            generalize W2.drew = w7 at k07 p7 S7 hs7 hS0 ⊢
            refine wpAnyH_take (i := 0) (v := .pointer (some ⟨gp, 0, none⟩)) rfl (by kernel_rfl) (by kernel_rfl) (by kernel_rfl) (fun _ _ _ h => h) (Or.inl ⟨by rfl, fun w _ => by go_simp⟩) (by assumption) ?_
            simp only [List.getElem_toArray, List.getElem_cons_zero, Act.put, List.setIfInBounds_toArray, List.set_cons_zero, List.set_cons_succ]
            refine wpAnyH_take (i := 1) (v := .pointer (some ⟨gp, 0, none⟩)) rfl (by kernel_rfl) (by kernel_rfl) (by kernel_rfl) (fun _ _ _ h => h) (Or.inl ⟨by rfl, fun w _ => by go_simp⟩) (by assumption) ?_
            simp only [List.getElem_toArray, List.getElem_cons_zero, List.getElem_cons_succ, Act.put, List.setIfInBounds_toArray, List.set_cons_zero, List.set_cons_succ]
            refine wpAnyH_take (i := 2) (v := .pointer (some ⟨gp, 0, none⟩)) rfl (by kernel_rfl) (by kernel_rfl) (by kernel_rfl) (fun _ _ _ h => h) (Or.inl ⟨by rfl, fun w _ => by go_simp⟩) (by assumption) ?_
            simp only [List.getElem_toArray, List.getElem_cons_zero, List.getElem_cons_succ, Act.put, List.setIfInBounds_toArray, List.set_cons_zero, List.set_cons_succ]
            refine wpAnyH_take (i := 3) (v := .pointer (some ⟨g, 0, none⟩)) rfl (by kernel_rfl) (by kernel_rfl) (by kernel_rfl) (fun _ _ _ h => h) (Or.inl ⟨by rfl, fun w h => by have h9 := (SK.p0 h); go_simp⟩) (by assumption) ?_
            simp only [List.getElem_toArray, List.getElem_cons_zero, List.getElem_cons_succ, Act.put, List.setIfInBounds_toArray, List.set_cons_zero, List.set_cons_succ]
            refine wpAnyH_take (i := 4) (v := .pointer (some ⟨bo, 2, none⟩)) rfl (by kernel_rfl) (by kernel_rfl) (by kernel_rfl) (fun _ _ _ h => h) (Or.inl ⟨by rfl, fun w _ => by go_simp⟩) (by assumption) ?_
            simp only [List.getElem_toArray, List.getElem_cons_zero, List.getElem_cons_succ, Act.put, List.setIfInBounds_toArray, List.set_cons_zero, List.set_cons_succ]
            refine wpAnyH_take (i := 5) (v := .int .i64 oN) rfl (by kernel_rfl) (by kernel_rfl) (by kernel_rfl) (fun _ _ _ h => h) (Or.inl ⟨by rfl, fun w h => by have h9 := (SK.o2 h); go_simp⟩) (by assumption) ?_
            simp only [List.getElem_toArray, List.getElem_cons_zero, List.getElem_cons_succ, Act.put, List.setIfInBounds_toArray, List.set_cons_zero, List.set_cons_succ]
            refine wpAnyH_take (i := 6) (v := .pointer (some ⟨bo, 3, none⟩)) rfl (by kernel_rfl) (by kernel_rfl) (by kernel_rfl) (fun _ _ _ h => h) (Or.inl ⟨by rfl, fun w _ => by go_simp⟩) (by assumption) ?_
            simp only [List.getElem_toArray, List.getElem_cons_zero, List.getElem_cons_succ, Act.put, List.setIfInBounds_toArray, List.set_cons_zero, List.set_cons_succ]
            refine wpAnyH_take (i := 7) (v := .int .u32 (ov.toNat : Int)) rfl (by kernel_rfl) (by kernel_rfl) (by kernel_rfl) (fun _ _ _ h => h) (Or.inl ⟨by rfl, fun w h => by have h9 := (SK.o3 h); go_simp⟩) (by assumption) ?_
            simp only [List.getElem_toArray, List.getElem_cons_zero, List.getElem_cons_succ, Act.put, List.setIfInBounds_toArray, List.set_cons_zero, List.set_cons_succ]
            refine wpAnyH_take (i := 9) (v := .pointer (some ⟨gp, 0, none⟩)) rfl (by kernel_rfl) (by kernel_rfl) (by kernel_rfl) (fun _ _ _ h => h) (Or.inl ⟨by rfl, fun w _ => by go_simp⟩) (by assumption) ?_
            simp only [List.getElem_toArray, List.getElem_cons_zero, List.getElem_cons_succ, Act.put, List.setIfInBounds_toArray, List.set_cons_zero, List.set_cons_succ]
            refine wpAnyH_take (i := 10) (v := .pointer (some ⟨gp, 0, none⟩)) rfl (by kernel_rfl) (by kernel_rfl) (by kernel_rfl) (fun _ _ _ h => h) (Or.inl ⟨by rfl, fun w _ => by go_simp⟩) (by assumption) ?_
            simp only [List.getElem_toArray, List.getElem_cons_zero, List.getElem_cons_succ, Act.put, List.setIfInBounds_toArray, List.set_cons_zero, List.set_cons_succ]
            refine wpAnyH_take (i := 11) (v := .pointer (some ⟨gp, 1, none⟩)) rfl (by kernel_rfl) (by kernel_rfl) (by kernel_rfl) (fun _ _ _ h => h) (Or.inl ⟨by rfl, fun w _ => by go_simp⟩) (by assumption) ?_
            simp only [List.getElem_toArray, List.getElem_cons_zero, List.getElem_cons_succ, Act.put, List.setIfInBounds_toArray, List.set_cons_zero, List.set_cons_succ]
            refine wpAnyH_take (i := 12) (v := .pointer (some ⟨g2, 0, none⟩)) rfl (by kernel_rfl) (by kernel_rfl) (by kernel_rfl) (fun _ _ _ h => h) (Or.inl ⟨by rfl, fun w h => by have h9 := (SK.p1 h); go_simp⟩) (by assumption) ?_
            simp only [List.getElem_toArray, List.getElem_cons_zero, List.getElem_cons_succ, Act.put, List.setIfInBounds_toArray, List.set_cons_zero, List.set_cons_succ]
            refine wpAnyH_take (i := 13) (v := .pointer (some ⟨bo, 2, none⟩)) rfl (by kernel_rfl) (by kernel_rfl) (by kernel_rfl) (fun _ _ _ h => h) (Or.inl ⟨by rfl, fun w _ => by go_simp⟩) (by assumption) ?_
            simp only [List.getElem_toArray, List.getElem_cons_zero, List.getElem_cons_succ, Act.put, List.setIfInBounds_toArray, List.set_cons_zero, List.set_cons_succ]
            refine wpAnyH_take (i := 14) (v := .int .i64 oN) rfl (by kernel_rfl) (by kernel_rfl) (by kernel_rfl) (fun _ _ _ h => h) (Or.inl ⟨by rfl, fun w h => by have h9 := (SK.o2 h); go_simp⟩) (by assumption) ?_
            simp only [List.getElem_toArray, List.getElem_cons_zero, List.getElem_cons_succ, Act.put, List.setIfInBounds_toArray, List.set_cons_zero, List.set_cons_succ]
            refine wpAnyH_take (i := 15) (v := .pointer (some ⟨bo, 3, none⟩)) rfl (by kernel_rfl) (by kernel_rfl) (by kernel_rfl) (fun _ _ _ h => h) (Or.inl ⟨by rfl, fun w _ => by go_simp⟩) (by assumption) ?_
            simp only [List.getElem_toArray, List.getElem_cons_zero, List.getElem_cons_succ, Act.put, List.setIfInBounds_toArray, List.set_cons_zero, List.set_cons_succ]
            refine wpAnyH_take (i := 16) (v := .int .u32 (ov.toNat : Int)) rfl (by kernel_rfl) (by kernel_rfl) (by kernel_rfl) (fun _ _ _ h => h) (Or.inl ⟨by rfl, fun w h => by have h9 := (SK.o3 h); go_simp⟩) (by assumption) ?_
            simp only [List.getElem_toArray, List.getElem_cons_zero, List.getElem_cons_succ, Act.put, List.setIfInBounds_toArray, List.set_cons_zero, List.set_cons_succ]
            refine wpAnyH_ready (rs := [8]) (by kernel_rfl) (by simp) ?_
            refine AllReadyH.cons rfl (fun K hKK => ?_) AllReadyH.nil
            go_simp
            refine (Cut_any g h s oN ov w7 p7.fl hoN).mono ?_
            rintro e w8 ⟨rfl, f8, k8⟩
            have r8 := k8.rf p7.rf (by have q9 := HDS.out; unfold Dis at q9; obtain ⟨⟨_, _, _, _, _, _⟩, ⟨_, _, _, _, _⟩, ⟨_, _, _, _⟩, ⟨_, _, _, _⟩, ⟨_, _, _, _, _⟩, ⟨_, _, _, _, _⟩⟩ := q9; simp only [List.mem_cons, List.not_mem_nil, or_false, not_or]; refine ⟨?_, ?_⟩ <;> first | assumption | (apply Ne.symm; assumption)) (by have q9 := HDS.out; unfold Dis at q9; obtain ⟨⟨_, _, _, _, _, _⟩, ⟨_, _, _, _, _⟩, ⟨_, _, _, _⟩, ⟨_, _, _, _⟩, ⟨_, _, _, _, _⟩, ⟨_, _, _, _, _⟩⟩ := q9; simp only [List.mem_cons, List.not_mem_nil, or_false, not_or]; refine ⟨?_, ?_⟩ <;> first | assumption | (apply Ne.symm; assumption))
            have rj8 := k8.rj p7.rj (by have q9 := HDS.out; unfold Dis at q9; obtain ⟨⟨_, _, _, _, _, _⟩, ⟨_, _, _, _, _⟩, ⟨_, _, _, _⟩, ⟨_, _, _, _⟩, ⟨_, _, _, _, _⟩, ⟨_, _, _, _, _⟩⟩ := q9; simp only [List.mem_cons, List.not_mem_nil, or_false, not_or]; refine ⟨?_, ?_⟩ <;> first | assumption | (apply Ne.symm; assumption)) (by have q9 := HDS.out; unfold Dis at q9; obtain ⟨⟨_, _, _, _, _, _⟩, ⟨_, _, _, _, _⟩, ⟨_, _, _, _⟩, ⟨_, _, _, _⟩, ⟨_, _, _, _, _⟩, ⟨_, _, _, _, _⟩⟩ := q9; simp only [List.mem_cons, List.not_mem_nil, or_false, not_or]; refine ⟨?_, ?_⟩ <;> first | assumption | (apply Ne.symm; assumption))
            have j8 := k8.jr p7.jr (by have q9 := HDS.out; unfold Dis at q9; obtain ⟨⟨_, _, _, _, _, _⟩, ⟨_, _, _, _, _⟩, ⟨_, _, _, _⟩, ⟨_, _, _, _⟩, ⟨_, _, _, _, _⟩, ⟨_, _, _, _, _⟩⟩ := q9; simp only [List.mem_cons, List.not_mem_nil, or_false, not_or]; refine ⟨?_, ?_⟩ <;> first | assumption | (apply Ne.symm; assumption)) (by have q9 := HDS.out; unfold Dis at q9; obtain ⟨⟨_, _, _, _, _, _⟩, ⟨_, _, _, _, _⟩, ⟨_, _, _, _⟩, ⟨_, _, _, _⟩, ⟨_, _, _, _, _⟩, ⟨_, _, _, _, _⟩⟩ := q9; simp only [List.mem_cons, List.not_mem_nil, or_false, not_or]; refine ⟨?_, ?_⟩ <;> first | assumption | (apply Ne.symm; assumption))
            have S8 := S7.keep k8 (by have q9 := HDS.out; unfold Dis at q9; obtain ⟨⟨_, _, _, _, _, _⟩, ⟨_, _, _, _, _⟩, ⟨_, _, _, _⟩, ⟨_, _, _, _⟩, ⟨_, _, _, _, _⟩, ⟨_, _, _, _, _⟩⟩ := q9; simp only [List.mem_cons, List.not_mem_nil, or_false, not_or]; refine ⟨?_, ?_⟩ <;> first | assumption | (apply Ne.symm; assumption)) (by simp; omega)
            have k08 : Keeps [] w w8 := k07.trans k8 (by simp; omega)
            have hs8 := k8.size
            refine hKK.out _ _ (S8) (fun hS8 => ?_)
            clear hKK
            refine wpAnyH_ready (rs := [17]) (by kernel_rfl) (by simp) ?_
            refine AllReadyH.cons rfl (fun K hKK => ?_) AllReadyH.nil
            go_simp
            refine (rCut_any g2 h2 s oN ov w8 r8 hoN).mono ?_
            rintro e w9 ⟨rfl, r9, k9⟩
            have f9 := k9.fl f8 (by have q9 := HDS.out; unfold Dis at q9; obtain ⟨⟨_, _, _, _, _, _⟩, ⟨_, _, _, _, _⟩, ⟨_, _, _, _⟩, ⟨_, _, _, _⟩, ⟨_, _, _, _, _⟩, ⟨_, _, _, _, _⟩⟩ := q9; simp only [List.mem_cons, List.not_mem_nil, or_false, not_or]; refine ⟨?_, ?_⟩ <;> first | assumption | (apply Ne.symm; assumption)) (by have q9 := HDS.out; unfold Dis at q9; obtain ⟨⟨_, _, _, _, _, _⟩, ⟨_, _, _, _, _⟩, ⟨_, _, _, _⟩, ⟨_, _, _, _⟩, ⟨_, _, _, _, _⟩, ⟨_, _, _, _, _⟩⟩ := q9; simp only [List.mem_cons, List.not_mem_nil, or_false, not_or]; refine ⟨?_, ?_⟩ <;> first | assumption | (apply Ne.symm; assumption))
            have S9 := S8.keep k9 (by have q9 := HDS.out; unfold Dis at q9; obtain ⟨⟨_, _, _, _, _, _⟩, ⟨_, _, _, _, _⟩, ⟨_, _, _, _⟩, ⟨_, _, _, _⟩, ⟨_, _, _, _, _⟩, ⟨_, _, _, _, _⟩⟩ := q9; simp only [List.mem_cons, List.not_mem_nil, or_false, not_or]; refine ⟨?_, ?_⟩ <;> first | assumption | (apply Ne.symm; assumption)) (by simp; omega)
            have k09 : Keeps [] w w9 := k08.trans k9 (by simp; omega)
            have hs9 := k9.size
            have j9 := k9.jr j8 (by have q9 := HDS.out; unfold Dis at q9; obtain ⟨⟨_, _, _, _, _, _⟩, ⟨_, _, _, _, _⟩, ⟨_, _, _, _⟩, ⟨_, _, _, _⟩, ⟨_, _, _, _, _⟩, ⟨_, _, _, _, _⟩⟩ := q9; simp only [List.mem_cons, List.not_mem_nil, or_false, not_or]; refine ⟨?_, ?_⟩ <;> first | assumption | (apply Ne.symm; assumption)) (by have q9 := HDS.out; unfold Dis at q9; obtain ⟨⟨_, _, _, _, _, _⟩, ⟨_, _, _, _, _⟩, ⟨_, _, _, _⟩, ⟨_, _, _, _⟩, ⟨_, _, _, _, _⟩, ⟨_, _, _, _, _⟩⟩ := q9; simp only [List.mem_cons, List.not_mem_nil, or_false, not_or]; refine ⟨?_, ?_⟩ <;> first | assumption | (apply Ne.symm; assumption))
            have rj9 := k9.rj rj8 (by have q9 := HDS.out; unfold Dis at q9; obtain ⟨⟨_, _, _, _, _, _⟩, ⟨_, _, _, _, _⟩, ⟨_, _, _, _⟩, ⟨_, _, _, _⟩, ⟨_, _, _, _, _⟩, ⟨_, _, _, _, _⟩⟩ := q9; simp only [List.mem_cons, List.not_mem_nil, or_false, not_or]; refine ⟨?_, ?_⟩ <;> first | assumption | (apply Ne.symm; assumption)) (by have q9 := HDS.out; unfold Dis at q9; obtain ⟨⟨_, _, _, _, _, _⟩, ⟨_, _, _, _, _⟩, ⟨_, _, _, _⟩, ⟨_, _, _, _⟩, ⟨_, _, _, _, _⟩, ⟨_, _, _, _, _⟩⟩ := q9; simp only [List.mem_cons, List.not_mem_nil, or_false, not_or]; refine ⟨?_, ?_⟩ <;> first | assumption | (apply Ne.symm; assumption))
            rw [← cutS_ws s oN ov] at j9 rj9
            have p9 : PJ w9 gp g h g2 h2 gj hj gr hr k (cutS s oN ov) J := ⟨S9.bp, f9, r9, j9, rj9, HDS.out, by rw [cutS_ws]; exact p7.len, p7.kk, by omega, by omega⟩
            refine hKK.out _ _ (S9) (fun hS17 => ?_)
            clear hKK
            refine wpAnyH_take (i := 18) (v := .bool false) rfl (by kernel_rfl) (by kernel_rfl) (by kernel_rfl) (fun _ _ _ h => h) (Or.inl ⟨by rfl, fun w _ => by go_simp⟩) (by assumption) ?_
            simp only [List.getElem_toArray, List.getElem_cons_zero, List.getElem_cons_succ, Act.put, List.setIfInBounds_toArray, List.set_cons_zero, List.set_cons_succ]
            refine wpAnyH_done (by kernel_rfl) ?_ _
            have y29 : w9.cell? ⟨gp, 2, none⟩ = some (.pointer (some ⟨gj, 0, none⟩)) := p9.bp.cell (j := 2) rfl
            clear hS0 hS8 hS17 S7 S8 S9 f8 r8 rj8 j8 f9 r9 rj9 j9 p7
            go_wp2_with (go_at_call 17; refine (pair_alike gp g h g2 h2 _ _ _ _ _ _ _ _ p9).mono ?_; rintro e w12 ⟨rfl, k12⟩)
            have hlt9 := HLT.out
            have hop9 := cutS_ops s oN ov
            go_roundw
            case rel => exact ⟨j + 1, by omega, by omega, by go_num, k09.trans k12 (by simp), hbs, .inr ⟨gj, hj, gr, hr, k, cutS s oN ov, J, p9.keep k12, by omega, hgj, hgr⟩⟩
            case measure => simp [intOf]; omega
          · by_cases h2' : kd = 2
            · subst h2'
              have b2 := Blk.new wb 39 [.int .i64 2, .slice oA on oc, .int .i64 oN, .int .u32 (ov.toNat : Int)]
              have k2 := (Keeps.refl [] wb).alloc (.cells #[.int .i64 2, .slice oA on oc, .int .i64 oN, .int .u32 (ov.toNat : Int)] 39)
              have hs2 : (wb.alloc (.cells #[.int .i64 2, .slice oA on oc, .int .i64 oN, .int .u32 (ov.toNat : Int)] 39)).heap.size = wb.heap.size + 1 := by simp
              have z0 : (wb.alloc (.cells #[.int .i64 2, .slice oA on oc, .int .i64 oN, .int .u32 (ov.toNat : Int)] 39)).cell? ⟨wb.heap.size, 0, none⟩ = some (.int .i64 2) := b2.cell (j := 0) rfl
              have p2 := p.keep k2
              have k02 := k0.trans k2 (by simp)
              have q0 : (wb.alloc (.cells #[.int .i64 2, .slice oA on oc, .int .i64 oN, .int .u32 (ov.toNat : Int)] 39)).cell? ⟨gp, 0, none⟩ = some (.pointer (some ⟨g, 0, none⟩)) := p2.bp.cell (j := 0) rfl
              have H2 := hide (And.intro p2 k02)
              clear b2 k2 hs2 p2 k02
              go_wp2_with (first
                | (go_at_call 15; refine (Start_any g h s _ H2.out.1.fl).mono ?_; rintro e w8 ⟨rfl, f8, k8⟩; have b8 := k8.blk H2.out.1.bp (by have q9 := HDS.out; unfold Dis at q9; obtain ⟨⟨_, _, _, _, _, _⟩, ⟨_, _, _, _, _⟩, ⟨_, _, _, _⟩, ⟨_, _, _, _⟩, ⟨_, _, _, _, _⟩, ⟨_, _, _, _, _⟩⟩ := q9; simp only [List.mem_cons, List.not_mem_nil, or_false, not_or]; refine ⟨?_, ?_⟩ <;> first | assumption | (apply Ne.symm; assumption)); have r8 := k8.rf H2.out.1.rf (by have q9 := HDS.out; unfold Dis at q9; obtain ⟨⟨_, _, _, _, _, _⟩, ⟨_, _, _, _, _⟩, ⟨_, _, _, _⟩, ⟨_, _, _, _⟩, ⟨_, _, _, _, _⟩, ⟨_, _, _, _, _⟩⟩ := q9; simp only [List.mem_cons, List.not_mem_nil, or_false, not_or]; refine ⟨?_, ?_⟩ <;> first | assumption | (apply Ne.symm; assumption)) (by have q9 := HDS.out; unfold Dis at q9; obtain ⟨⟨_, _, _, _, _, _⟩, ⟨_, _, _, _, _⟩, ⟨_, _, _, _⟩, ⟨_, _, _, _⟩, ⟨_, _, _, _, _⟩, ⟨_, _, _, _, _⟩⟩ := q9; simp only [List.mem_cons, List.not_mem_nil, or_false, not_or]; refine ⟨?_, ?_⟩ <;> first | assumption | (apply Ne.symm; assumption)); have k08 := H2.out.2.trans k8 (by simp; omega); have q1 : w8.cell? ⟨gp, 1, none⟩ = some (.pointer (some ⟨g2, 0, none⟩)) := b8.cell (j := 1) rfl; have H8 := hide (And.intro b8 (And.intro r8 (And.intro f8 k08))); clear b8 r8 f8 k08)
                | (go_at_call 16; refine (rStart_any g2 h2 s _ H8.out.2.1).mono ?_; rintro e w9 ⟨rfl, r9, k9⟩; have b9 := k9.blk H8.out.1 (by have q9 := HDS.out; unfold Dis at q9; obtain ⟨⟨_, _, _, _, _, _⟩, ⟨_, _, _, _, _⟩, ⟨_, _, _, _⟩, ⟨_, _, _, _⟩, ⟨_, _, _, _, _⟩, ⟨_, _, _, _, _⟩⟩ := q9; simp only [List.mem_cons, List.not_mem_nil, or_false, not_or]; refine ⟨?_, ?_⟩ <;> first | assumption | (apply Ne.symm; assumption)); have f9 := k9.fl H8.out.2.2.1 (by have q9 := HDS.out; unfold Dis at q9; obtain ⟨⟨_, _, _, _, _, _⟩, ⟨_, _, _, _, _⟩, ⟨_, _, _, _⟩, ⟨_, _, _, _⟩, ⟨_, _, _, _, _⟩, ⟨_, _, _, _, _⟩⟩ := q9; simp only [List.mem_cons, List.not_mem_nil, or_false, not_or]; refine ⟨?_, ?_⟩ <;> first | assumption | (apply Ne.symm; assumption)) (by have q9 := HDS.out; unfold Dis at q9; obtain ⟨⟨_, _, _, _, _, _⟩, ⟨_, _, _, _, _⟩, ⟨_, _, _, _⟩, ⟨_, _, _, _⟩, ⟨_, _, _, _, _⟩, ⟨_, _, _, _, _⟩⟩ := q9; simp only [List.mem_cons, List.not_mem_nil, or_false, not_or]; refine ⟨?_, ?_⟩ <;> first | assumption | (apply Ne.symm; assumption)); have k09 := H8.out.2.2.2.trans k9 (by simp; omega)))
              refine (pair_open gp g h g2 h2 _ _ (staS s) at_ w9 b9 f9 r9 p.len HD.out.1 HD.out.2.1 HD.out.2.2.1 HD.out.2.2.2.1 HD.out.2.2.2.2.1 HD.out.2.2.2.2.2.1 HD.out.2.2.2.2.2.2.1 HD.out.2.2.2.2.2.2.2).mono ?_
              rintro e w10 hop
              have st10 : St w w10 gp g h g2 h2 j := hop.st k09 hbs (by show s.ops ≤ _; omega)
              obtain ⟨rfl, kO, hor⟩ := hop
              rcases hor with ⟨_, _, rv, bc⟩ | ⟨gj', hj', gr', hr', k', J', p', _, _⟩
              · have y210 : w10.cell? ⟨gp, 2, none⟩ = some (.pointer none) := bc.cell (j := 2) rfl
                go_wp2
                have hlt9 := HLT.out
                go_roundw
                case rel => exact ⟨j + 1, by omega, by omega, by go_num, st10.next (Keeps.refl _ _) (by omega)⟩
                case measure => simp [intOf]; omega
              · have y210 : w10.cell? ⟨gp, 2, none⟩ = some (.pointer (some ⟨gj', 0, none⟩)) := p'.bp.cell (j := 2) rfl
                go_wp2_with (go_at_call 17; refine (pair_alike gp g h g2 h2 _ _ _ _ _ _ _ _ p').mono ?_; rintro e w12 ⟨rfl, k12⟩)
                have hlt9 := HLT.out
                go_roundw
                case rel => exact ⟨j + 1, by omega, by omega, by go_num, st10.next k12 (by omega)⟩
                case measure => simp [intOf]; omega
            · have b2 := Blk.new wb 39 [.int .i64 kd, .slice oA on oc, .int .i64 oN, .int .u32 (ov.toNat : Int)]
              have k2 := (Keeps.refl [] wb).alloc (.cells #[.int .i64 kd, .slice oA on oc, .int .i64 oN, .int .u32 (ov.toNat : Int)] 39)
              have hs2 : (wb.alloc (.cells #[.int .i64 kd, .slice oA on oc, .int .i64 oN, .int .u32 (ov.toNat : Int)] 39)).heap.size = wb.heap.size + 1 := by simp
              have z0 : (wb.alloc (.cells #[.int .i64 kd, .slice oA on oc, .int .i64 oN, .int .u32 (ov.toNat : Int)] 39)).cell? ⟨wb.heap.size, 0, none⟩ = some (.int .i64 kd) := b2.cell (j := 0) rfl
              have p2 := p.keep k2
              have k02 := k0.trans k2 (by simp)
              have e0 : (kd == 0) = false := by rw [beq_eq_false_iff_ne]; exact h0
              have e1 : (kd == 1) = false := by rw [beq_eq_false_iff_ne]; exact h1
              have e2 : (kd == 2) = false := by rw [beq_eq_false_iff_ne]; exact h2'
              clear b2 k2 hs2 h0 h1 h2'
              go_wp2_with fail
              refine (pair_open gp g h g2 h2 _ _ s at_ _ p2.bp p2.fl p2.rf p.len HD.out.1 HD.out.2.1 HD.out.2.2.1 HD.out.2.2.2.1 HD.out.2.2.2.2.1 HD.out.2.2.2.2.2.1 HD.out.2.2.2.2.2.2.1 HD.out.2.2.2.2.2.2.2).mono ?_
              rintro e w10 hop
              have st10 : St w w10 gp g h g2 h2 j := hop.st k02 hbs (by omega)
              obtain ⟨rfl, kO, hor⟩ := hop
              rcases hor with ⟨_, _, rv, bc⟩ | ⟨gj', hj', gr', hr', k', J', p', _, _⟩
              · have y210 : w10.cell? ⟨gp, 2, none⟩ = some (.pointer none) := bc.cell (j := 2) rfl
                go_wp2
                have hlt9 := HLT.out
                go_roundw
                case rel => exact ⟨j + 1, by omega, by omega, by go_num, st10.next (Keeps.refl _ _) (by omega)⟩
                case measure => simp [intOf]; omega
              · have y210 : w10.cell? ⟨gp, 2, none⟩ = some (.pointer (some ⟨gj', 0, none⟩)) := p'.bp.cell (j := 2) rfl
                go_wp2_with (go_at_call 17; refine (pair_alike gp g h g2 h2 _ _ _ _ _ _ _ _ p').mono ?_; rintro e w12 ⟨rfl, k12⟩)
                have hlt9 := HLT.out
                go_roundw
                case rel => exact ⟨j + 1, by omega, by omega, by go_num, st10.next k12 (by omega)⟩
                case measure => simp [intOf]; omega
      · by_cases hlt2 : j < n
        · have d1 : decide ((j : Int) < (n : Int)) = true := by simp; omega
          have d2 : decide ((j : Int) < 40) = false := by simp; omega
          go_wp2_with (go_at_call 6; refine (known_any _).mono ?_; rintro e w13 ⟨rfl, k13⟩)
          go_ret
          exact ⟨rfl, (k0.trans k13 (by simp)).back⟩
        · have d1 : decide ((j : Int) < (n : Int)) = false := by simp; omega
          go_wp2_with (go_at_call 6; refine (known_any _).mono ?_; rintro e w13 ⟨rfl, k13⟩)
          go_ret
          exact ⟨rfl, (k0.trans k13 (by simp)).back⟩
end Go.Proofs.Ytahnfkoakaimhaa
namespace Go.Proofs.Ytahnfkoakaimhaa.journalPlays
open Go.ChangeShapes Go.WideShapes Go.ChangeAt Go.RowKit
open Go.ChangeMaps (open_string shut_string)
set_option linter.unusedVariables false
set_option maxRecDepth 100000 in
theorem lifted (os : Os) (started : os.Started) (H : Type) (enc : TypeId × Value → H) :
    ReturnsInHanded {} Try.checked os 3 .any (Rows.journalPlaysSpec.pre6 enc Try.prog Try.f3 Rows.journalPlaysRow.domain false) (Rows.journalPlaysSpec.post enc Try.prog Try.f3 false true false false) := by
  refine returnsInHanded_of_change (C := Try.checked) own started (by kernel_rfl) Try.func3
    (ChangeSpec.witness6 (enc := enc) (C := Try.checked) false ⟨#[], #[.int .i64 0, .slice none 0 0], []⟩ 8 (by kernel_rfl) (by kernel_rfl) (by kernel_rfl) (by kernel_rfl)) ?_
  intro W base args ds gs before hval0 hW hcnd _
  have hval : ∀ (j : Nat) t v, Try.f3.params[j]? = some t → args[j]? = some v → Value.okWide Try.prog W .any base t v := hval0
  have hW' := hW
  obtain ⟨p, q, hA0, hV, rfl, hfz, hnd⟩ := hW
  have hA : DataW.TrodAll enc Try.prog W 0 (fun _ => true) true Try.f3.params.toList args.toList ds p := hA0
  rw [Try.params3] at hA hval
  obtain ⟨v0, vs0, d0, ds0, p0, q0, hargs, rfl, rfl, h0, r0⟩ := trodAll_cons hA
  obtain ⟨v1, vs1, d1, ds1, p1, q1, rfl, rfl, rfl, h1, r1⟩ := trodAll_cons r0
  obtain ⟨rfl, rfl, rfl⟩ := trodAll_nil r1
  obtain rfl : args = #[v0, v1] := by cases args; simp_all
  obtain ⟨rfl, rfl⟩ := trodVars_none hV
  obtain ⟨a0, rfl, rfl, rfl, w0⟩ := open_int Try.underlying3 (hval 0 3 v0 rfl rfl) h0
  obtain ⟨a1, len1, cap1, rfl⟩ := okWide_slice Try.underlying22 (hval 1 22 v1 rfl rfl)
  have k1 := h1
  have lt1 : ∀ x ∈ p1, x.block < W.heap.size := by obtain ⟨m, hm⟩ := k1; exact DataW.trod_lt m _ _ _ hm
  obtain ⟨l1, w1⟩ := open_jops h1
  clear hA0 hval0
  refine (plays_walk a0 a1 len1 cap1 l1 W w0 w1).mono fun e W' ⟨he, bel⟩ => ?_
  subst he
  exact ⟨_, rfl, _, _, _, [], _, [], hW', trodAll_mk1 (shut_bool Try.underlying4 _), (trodAll_cons_mk (shut_int Try.underlying3 w0) (trodAll_cons_mk (Below.trod laidOut (by kernel_rfl) (of_decide_eq_true (by kernel_rfl)) k1 bel lt1) trodAll_mk0)), rfl, bel.frame _, fun h => by cases h⟩

theorem over : Rows.JournalPlaysSaid :=
  OpenClaim.holds_of_wide 3 Try.f3 rfl rfl rfl rfl rfl rfl rfl ⟨rfl, rfl, rfl, rfl, rfl⟩ rfl rfl rfl rfl rfl (by kernel_rfl) Try.func3 (by kernel_rfl)
    (of_decide_eq_true (by kernel_rfl)) (by unfold Func.isWrapper; first | (rw [if_pos (by decide +kernel)]; kernel_rfl) | (rw [if_neg (by decide +kernel)]; exact ⟨rfl, rfl⟩))
    (fun os started H enc _ => lifted os started H enc)
end Go.Proofs.Ytahnfkoakaimhaa.journalPlays
namespace Go.Proofs.Ytahnfkoakaimhaa
theorem journalPlays_holds : Rows.JournalPlaysSaid := journalPlays.over
#print axioms journalPlays_holds
end Go.Proofs.Ytahnfkoakaimhaa
