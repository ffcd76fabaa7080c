/-
  The walk of the law JournalApart.
-/
import Derived.Test.YtfchfmekpealjaaJOps
import Derived.Deep.RegionHeld3
namespace Go.Proofs.Ytfchfmekpealjaa
open Go.RowKit
set_option maxHeartbeats 8000000

def apW (l : List UInt32) (i : Nat) : UInt32 := if (i < 256 ∨ 768 ≤ i) ∧ 0 < l.length then l.getD (i % l.length) 0 else ones32
def apL (l : List UInt32) (k : Nat) : List UInt32 := (List.range k).map (apW l)
theorem apL_len (l : List UInt32) (k : Nat) : (apL l k).length = k := by simp [apL]
theorem apL_succ (l : List UInt32) (k : Nat) : apL l (k + 1) = apL l k ++ [apW l k] := by simp [apL, List.range_succ]
theorem progsS_ops' (l : List UInt32) : ∀ (s : FS) (a : Nat), (progsS s a l).ops ≤ s.ops + l.length := by
  induction l with
  | nil => intro s a; exact Nat.le_refl _
  | cons v l ih =>
    intro s a
    rw [progsS]
    have h1 := proS_ops s (a : Int) v
    have h2 := ih (proS s (a : Int) v) (a + 1)
    rw [List.length_cons]
    split <;> omega
theorem appS_ops' (s : FS) (k : Nat) (r : List UInt32) : (appS s k r).ops ≤ s.ops + (r.length + 5) := by
  unfold appS
  have h0 := eraS_ops s (othN s.ws k : Int)
  split
  · have := progsS_ops' (laidW ((curV s.ws k).num + 1) r) s (256 * curN s.ws k + (curV s.ws k).used)
    rw [laidW_len] at this; omega
  · split
    · have := progsS_ops' (laidW ((curV s.ws k).num + 1) r) (eraS s (othN s.ws k)) (256 * othN s.ws k)
      rw [laidW_len] at this; omega
    · omega
/-- An Append changes its two sectors alone. -/
theorem apart_step {s : FS} {k : Nat} (r : List UInt32) (hon : s.on = true) (hl : 256 * (k + 2) ≤ s.ws.length) :
    (jS s k (opJ s.ws k) r).ws.length = s.ws.length ∧ (jS s k (opJ s.ws k) r).ops ≤ s.ops + 70 ∧ ∀ i, i ≠ k → i ≠ k + 1 → sect (jS s k (opJ s.ws k) r).ws i = sect s.ws i := by
  have h3 : ¬ ((opJ s.ws k).dead = true ∨ s.on = false) := by rw [hon]; unfold opJ; simp
  unfold jS
  rw [if_neg h3]
  by_cases hb : bigB (opJ s.ws k) r
  · rw [if_pos hb]; exact ⟨rfl, by omega, fun _ _ _ => rfl⟩
  · rw [if_neg hb]
    have hg := (opJ_good s.ws k).le
    unfold bigB at hb
    have hn : (curV s.ws k).num = (opJ s.ws k).num := rfl
    obtain ⟨h5, hlen, _⟩ := app_spec s k r hon hl (by omega) (by omega) (by omega)
    have := appS_ops' s k r
    exact ⟨hlen, by omega, h5⟩
theorem Append_none (gj hj gf hf k c : Nat) (A : Option Addr) (j : JS) (s : FS) (w : World) (h : Jr w gj hj gf k s.ws j) (f : Fl w gf hf s) (hd : j.dead = false) (hon : s.on = true) :
    Calls Try.prog 14 #[.pointer (some ⟨gj, 0, none⟩), .slice A 0 c] w (Apps w gj hj gf hf k s 3 j) := by
  obtain ⟨cur, oth, A0, An, Ac, used, cl, hb, ho, hAh, hl⟩ := h.ex
  have c0 : w.cell? ⟨gj, 0, none⟩ = some (.pointer (some ⟨gf, 0, none⟩)) := hb.cell (j := 0) rfl
  have c7 : w.cell? ⟨gj, 7, none⟩ = some (.bool j.dead) := hb.cell (j := 7) rfl
  rw [hd] at c7
  have HO := hide hon
  have FIN : Hid (Apps w gj hj gf hf k s 3 j (.returned (.int .i64 3)) w) := ⟨rfl, f, Keeps.refl _ _, hj, .inl rfl, h⟩
  clear hl hAh ho hb h hon hd
  go_enter Try.func14, Try.ntmps14
  go_wp2_with (first
    | (go_at_call 33; refine (jisNone_any gj gf _ c0).mono ?_; rintro e w1 ⟨rfl, rfl⟩)
    | (go_at_call 24; refine (On_any gf hf s _ f).mono ?_; rintro e w1 ⟨rfl, rfl⟩; rw [HO.out]))
  go_ret
  exact FIN.out
theorem Append_open (gj hj gf hf k n c : Nat) (A : Option Addr) (r : List UInt32) (s : FS) (w : World) (h : Jr w gj hj gf k s.ws (opJ s.ws k)) (h1 : gj ≠ gf) (h2 : gj ≠ hf) (h3 : hj ≠ gf) (h4 : hj ≠ hf) (f : Fl w gf hf s)
    (hr : Row w w.heap.size A n c (cs32 r)) (hA : 0 < n → ∀ a, A = some a → a.block ∉ [gj, gf, hf]) (hk : 256 * (k + 2) ≤ s.ws.length) (hops : s.ops ≤ 1152921504606846976) (hon : s.on = true) :
    ∃ j' q, Calls Try.prog 14 #[.pointer (some ⟨gj, 0, none⟩), .slice A n c] w (Apps w gj hj gf hf k (jS s k (opJ s.ws k) r) q j') := by
  by_cases h0 : 0 < n
  · exact ⟨_, _, Append_any gj hj gf hf k n c A r (opJ s.ws k) s w h h1 h2 h3 h4 f hr (hA h0) hk hops⟩
  · obtain rfl : n = 0 := by omega
    have hln := hr.len
    rw [cs32_len] at hln
    have hb : bigB (opJ s.ws k) r := .inl hln
    have h5 : ¬ ((opJ s.ws k).dead = true ∨ s.on = false) := by rw [hon]; unfold opJ; simp
    have e : jS s k (opJ s.ws k) r = s := by unfold jS; rw [if_neg h5, if_pos hb]
    rw [e]
    exact ⟨_, _, Append_none gj hj gf hf k c A (opJ s.ws k) s w h f rfl hon⟩
theorem Open_1 (gf h : Nat) (s : FS) (w : World) (f : Fl w gf h s) (hon : s.on = true) (hk : 768 ≤ s.ws.length) : Calls Try.prog 22 #[.pointer (some ⟨gf, 0, none⟩), .int .i64 1] w (Opens w gf 1 s.ws) := Open_in gf h s 1 w f hon hk
theorem Cut_near' (g h : Nat) (s : FS) (n : Nat) (m : UInt32) (w : World) (f : Fl w g h s) (hn : n ≤ 9223372036854775807) : Calls Try.prog 17 #[.pointer (some ⟨g, 0, none⟩), .int .i64 (n : Int), .int .u32 (m.toNat : Int)] w (Does w g h ⟨s.ws, s.on, s.ops, some (n, m)⟩ (.int .i64 0)) := by
  have h0 := Cut_any g h s (n : Int) m w f (by omega)
  have e1 : cutS s (n : Int) m = ⟨s.ws, s.on, s.ops, some (n, m)⟩ := by unfold cutS; rw [if_pos (by omega)]; rfl
  have e2 : cutE (n : Int) = 0 := by unfold cutE; rw [if_pos (by omega)]
  rw [e1, e2] at h0
  exact h0
theorem Count_100 (a : Int) (w : World) : Calls Try.prog 23 #[.int .i64 a, .int .i64 100] w fun e w' => e = .returned (.int .i64 (cntN a 100 : Int)) ∧ w = w' := Count_any a 100 w (by omega) (by omega)
def Alike2 (w : World) (A : Option Addr) (n c : Nat) (A' : Option Addr) (n' c' : Nat) : Prop := ∃ (ws : List UInt32) (B B' : Nat), Row w B A n c (cs32 ws) ∧ Row w B' A' n' c' (cs32 ws)
theorem Alike2.drewN {w : World} {A : Option Addr} {n c : Nat} {A' : Option Addr} {n' c' : Nat} (h : Alike2 w A n c A' n' c') (k : Nat) : Alike2 (w.drewN k) A n c A' n' c' := by
  obtain ⟨ws, B, B', h1, h2⟩ := h
  exact ⟨ws, B, B', h1.of_drewN k, h2.of_drewN k⟩
theorem Same_ex {w : World} {A : Option Addr} {n c : Nat} {A' : Option Addr} {n' c' : Nat} (h : Alike2 w A n c A' n' c') : Calls Try.prog 16 #[.slice A n c, .slice A' n' c'] w (Drew true w) := by
  obtain ⟨ws, B, B', h1, h2⟩ := h
  exact Same_any B B' A A' n n' c c' ws w h1 h2
theorem sect_head (ws : List UInt32) : (cs32 ws).take 256 = cs32 (sect ws 0) := by unfold sect cs32; rw [Nat.mul_zero, List.drop_zero, List.map_take]
theorem sect_end {ws : List UInt32} (h : ws.length = 1024) : (cs32 ws).drop 768 = cs32 (sect ws 3) := by
  unfold sect cs32
  rw [show 256 * 3 = 768 from rfl, List.take_of_length_le (by simp; omega), List.map_drop]
def ApartAt (w wr : World) (g h x5 c5 q gj hj : Nat) (s : FS) (W : List UInt32) : Prop :=
  Fl wr g h s ∧ Jr wr gj hj g 1 s.ws (opJ s.ws 1) ∧ wr.ownsRow 0 37 1 (.slice (some ⟨x5, 0, none⟩) 1024 c5) 1024 (cs32 W) ∧ Keeps [] w wr ∧ s.on = true ∧ s.ws.length = 1024 ∧ s.ops ≤ 70 * q ∧ (sect s.ws 0 = sect W 0 ∧ sect s.ws 3 = sect W 3) ∧ hj ≠ g ∧ hj ≠ h ∧ gj ≠ g ∧ gj ≠ h ∧ x5 ≠ gj ∧ x5 ≠ g ∧ x5 ≠ h
set_option maxRecDepth 10000 in
theorem apart_walk (A0 : Option Addr) (n0 c0 : Nat) (l : List UInt32) (A : Option Addr) (n c : Nat) (os : List JO) (w : World) (hl : Row w w.heap.size A0 n0 c0 (cs32 l)) (hr : JOps w A n c os) :
    Calls Try.prog 7 #[.slice A0 n0 c0, .slice A n c] w fun e w' => e = .returned (.bool true) ∧ Below w.heap.size w w' := by
  have hm := hr.max
  have hcap := hr.cap
  unfold maxLen at hm
  have hm0 := hl.max
  have hcap0 := hl.cap
  unfold maxLen at hm0
  have hln := hl.len
  rw [cs32_len] at hln
  obtain ⟨i0, hi, hz0, hz1, hz2⟩ := info_parts info32
  go_enter Try.func7, Try.ntmps7
  go_wp2_with fail
  refine (light_any A n c os w w hr (Keeps.refl _ _)).mono ?_
  rintro e w1 ⟨⟨b, rfl⟩, rfl⟩
  rcases b with _ | _
  · go_wp2_with fail
    refine (known_any _).mono ?_
    rintro e w3 ⟨rfl, k2⟩
    go_wp2
    go_ret
    exact ⟨rfl, k2.back⟩
  go_wp2_with fail
  go_loopw [5, 6] (fun sl i wr => ∃ (t : Nat) (A' : Option Addr) (c' : Nat), t ≤ 1024 ∧ i = .int .i64 (t : Int) ∧ sl = .slice A' t c' ∧ wr.ownsRow w.heap.size 37 1 (.slice A' t c') t (cs32 (apL l t)) ∧ Below w.heap.size w wr) (fun _ i _ => 1024 - (intOf i).toNat)
  case atStart => exact ⟨0, none, 0, Nat.zero_le _, rfl, rfl, World.ownsRow_nil _ _ _ _, Below.refl _ _⟩
  case round =>
    obtain ⟨t, A', c', ht, rfl, rfl, ho, hb⟩ := hrel
    have hbs := hb.size
    by_cases htz : t < 1024
    · obtain ⟨x, hx⟩ : ∃ x : UInt32, x = apW l t := ⟨_, rfl⟩
      have HE := hide (show cs32 (apL l (t + 1)) = cs32 (apL l t) ++ [.int .u32 (x.toNat : Int)] by rw [apL_succ, cs32_snoc, hx])
      by_cases hc : (t < 256 ∨ 768 ≤ t) ∧ 0 < n0
      · have hp : t % n0 < n0 := Nat.mod_lt _ hc.2
        obtain ⟨p, hpe⟩ : ∃ p, p = t % n0 := ⟨_, rfl⟩
        rw [← hpe] at hp
        have hpi : (t : Int) % (n0 : Int) = (p : Int) := by rw [hpe]; exact (Int.natCast_emod t n0).symm
        obtain ⟨b, o, u, rfl, _, hu, hcell⟩ := (hl.keep hb (Nat.le_refl _)).get hp
        have hpl : p < l.length := by omega
        rw [cs32_at hpl] at hu
        obtain rfl := Option.some.inj hu
        have hxe : l[p] = x := by
          rw [hx]; unfold apW
          rw [if_pos (by omega), hln, ← hpe, List.getD_eq_getElem?_getD, List.getElem?_eq_getElem hpl]; rfl
        rw [hxe] at hcell
        have d2 : decide ((0 : Int) < (n0 : Int)) = true := by simp; omega
        have HH := hide (And.intro hl hr)
        clear hu hxe hpe hx hl hr
        rcases Nat.lt_or_ge t 256 with h2 | h2
        · have d1 : decide ((t : Int) < 256) = true := by simp; omega
          clear hc
          go_wp2_with (at_builtin; refine wpList_append_row rfl (.tmp 41) (.tmp 43) 36 rfl w.heap.size 37 i0 _ 4 Try.underlying36 hi hz0 hz1 hz2 rfl _ _ _ rfl (ho.alloc _) _ _ _ _ _ rfl (Row.one _ _ _) (one_u32 _) (by unfold maxLen; omega) (by omega) w (hb.alloc (by omega) _) (Nat.le_refl _) ?_; intro A2 c2 w6 ho2 hb2 hg2)
          have ho3 : w6.ownsRow w.heap.size 37 1 (.slice A2 (t + 1) c2) (t + 1) (cs32 (apL l (t + 1))) := by rw [HE.out]; exact ho2
          clear HE ho2
          go_roundw
          case rel => exact ⟨t + 1, A2, c2, by omega, by go_num, rfl, ho3, hb2⟩
          case measure => simp [intOf]; omega
        · have d1 : decide ((t : Int) < 256) = false := by simp; omega
          have d3 : decide ((768 : Int) ≤ (t : Int)) = true := by simp; omega
          clear hc
          go_wp2_with (at_builtin; refine wpList_append_row rfl (.tmp 41) (.tmp 43) 36 rfl w.heap.size 37 i0 _ 4 Try.underlying36 hi hz0 hz1 hz2 rfl _ _ _ rfl (ho.alloc _) _ _ _ _ _ rfl (Row.one _ _ _) (one_u32 _) (by unfold maxLen; omega) (by omega) w (hb.alloc (by omega) _) (Nat.le_refl _) ?_; intro A2 c2 w6 ho2 hb2 hg2)
          have ho3 : w6.ownsRow w.heap.size 37 1 (.slice A2 (t + 1) c2) (t + 1) (cs32 (apL l (t + 1))) := by rw [HE.out]; exact ho2
          clear HE ho2
          go_roundw
          case rel => exact ⟨t + 1, A2, c2, by omega, by go_num, rfl, ho3, hb2⟩
          case measure => simp [intOf]; omega
      · have hxe : x = ones32 := by rw [hx]; unfold apW; rw [if_neg (by rw [hln]; exact hc)]
        subst hxe
        have HH := hide (And.intro hl hr)
        clear hx hl hr
        by_cases h2 : t < 256 ∨ 768 ≤ t
        · obtain rfl : n0 = 0 := by omega
          rcases Nat.lt_or_ge t 256 with h3 | h3
          · have d1 : decide ((t : Int) < 256) = true := by simp; omega
            clear hc h2
            go_wp2_with (at_builtin; refine wpList_append_row rfl (.tmp 41) (.tmp 43) 36 rfl w.heap.size 37 i0 _ 4 Try.underlying36 hi hz0 hz1 hz2 rfl _ _ _ rfl (ho.alloc _) _ _ _ _ _ rfl (Row.one _ _ _) (one_u32 _) (by unfold maxLen; omega) (by omega) w (hb.alloc (by omega) _) (Nat.le_refl _) ?_; intro A2 c2 w6 ho2 hb2 hg2)
            have ho3 : w6.ownsRow w.heap.size 37 1 (.slice A2 (t + 1) c2) (t + 1) (cs32 (apL l (t + 1))) := by rw [HE.out]; exact ho2
            clear HE ho2
            go_roundw
            case rel => exact ⟨t + 1, A2, c2, by omega, by go_num, rfl, ho3, hb2⟩
            case measure => simp [intOf]; omega
          · have d1 : decide ((t : Int) < 256) = false := by simp; omega
            have d3 : decide ((768 : Int) ≤ (t : Int)) = true := by simp; omega
            clear hc h2
            go_wp2_with (at_builtin; refine wpList_append_row rfl (.tmp 41) (.tmp 43) 36 rfl w.heap.size 37 i0 _ 4 Try.underlying36 hi hz0 hz1 hz2 rfl _ _ _ rfl (ho.alloc _) _ _ _ _ _ rfl (Row.one _ _ _) (one_u32 _) (by unfold maxLen; omega) (by omega) w (hb.alloc (by omega) _) (Nat.le_refl _) ?_; intro A2 c2 w6 ho2 hb2 hg2)
            have ho3 : w6.ownsRow w.heap.size 37 1 (.slice A2 (t + 1) c2) (t + 1) (cs32 (apL l (t + 1))) := by rw [HE.out]; exact ho2
            clear HE ho2
            go_roundw
            case rel => exact ⟨t + 1, A2, c2, by omega, by go_num, rfl, ho3, hb2⟩
            case measure => simp [intOf]; omega
        · have d1 : decide ((t : Int) < 256) = false := by simp; omega
          have d3 : decide ((768 : Int) ≤ (t : Int)) = false := by simp; omega
          clear hc h2
          go_wp2_with (at_builtin; refine wpList_append_row rfl (.tmp 41) (.tmp 43) 36 rfl w.heap.size 37 i0 _ 4 Try.underlying36 hi hz0 hz1 hz2 rfl _ _ _ rfl (ho.alloc _) _ _ _ _ _ rfl (Row.one _ _ _) (one_u32 _) (by unfold maxLen; omega) (by omega) w (hb.alloc (by omega) _) (Nat.le_refl _) ?_; intro A2 c2 w6 ho2 hb2 hg2)
          have ho3 : w6.ownsRow w.heap.size 37 1 (.slice A2 (t + 1) c2) (t + 1) (cs32 (apL l (t + 1))) := by rw [HE.out]; exact ho2
          clear HE ho2
          go_roundw
          case rel => exact ⟨t + 1, A2, c2, by omega, by go_num, rfl, ho3, hb2⟩
          case measure => simp [intOf]; omega
    · obtain rfl : t = 1024 := by omega
      obtain ⟨x5, rfl⟩ := own_some ho (by omega)
      have hx5 := own_lt ho
      obtain ⟨W, hW⟩ : ∃ W, W = apL l 1024 := ⟨_, rfl⟩
      have hWl : W.length = 1024 := by rw [hW]; exact apL_len l 1024
      rw [← hW] at ho
      have HW := hide hWl
      clear hW hWl htz ht
      go_wp2_with fail
      refine (Of_any wr.heap.size _ 1024 c' W wr (Row.of_own ho) (Nat.le_refl _) (by omega)).mono ?_
      rintro e w2 ⟨g, h, rfl, f2, k2, hg, hh⟩
      have hx2 := f2.lt
      have hx3 := f2.lt2
      go_wp2_with fail
      refine (Open_1 g h _ w2 f2 rfl (by show 768 ≤ W.length; have := HW.out; omega)).mono ?_
      rintro e w3 ⟨gj, hj, rfl, j3, k3, hgj, hhj⟩
      have hs2 := k2.size
      have hs3 := k3.size
      have C0 : ApartAt w w3 g h x5 c' 0 gj hj (ofS W) W := ⟨k3.fl f2 (by simp) (by simp), j3, own_base (Nat.zero_le _) (k3.own (k2.own ho (by simp)) (by simp)), ((Keeps.of_below hb).trans k2 (by simp)).trans k3 (by simp), rfl, HW.out, Nat.zero_le _, ⟨rfl, rfl⟩, by omega, by omega, by omega, by omega, by omega, by omega, by omega⟩
      clear f2 k2 j3 k3 ho hb
      have hgw : w.heap.size ≤ g := by omega
      have hhw : w.heap.size ≤ h := by omega
      have hjw : w.heap.size ≤ gj := by omega
      clear hg hh hgj hhj hx2 hx3 hs2 hs3 hx5 hbs
      go_wp2_with fail
      go_loopw [9, 11] (fun jp i wr => ∃ (q gj hj : Nat) (s : FS), q ≤ n ∧ q ≤ 30 ∧ w.heap.size ≤ gj ∧ jp = .pointer (some ⟨gj, 0, none⟩) ∧ i = .int .i64 (q : Int) ∧ ApartAt w wr g h x5 c' q gj hj s W) (fun _ i _ => 30 - (intOf i).toNat)
      case atStart => exact ⟨0, gj, hj, ofS W, Nat.zero_le _, by omega, hjw, rfl, rfl, C0⟩
      case round =>
        clear C0 hjw
        generalize wr = w5 at hrel ⊢
        obtain ⟨q, gj, hj, s, hq, hq4, hgj, rfl, rfl, CA⟩ := hrel
        by_cases hlt : q < n
        · by_cases hl4 : q < 30
          · obtain ⟨b, fo, o, rfl, hb, x0, x1, x2, x3, hro, hN1, hk1, hk2⟩ := hr.get CA.2.2.2.1 hlt
            obtain ⟨kd, oA, on, oc, ol, oN, ov⟩ := o
            dsimp only at x0 x1 x2 x3 hro hN1 hk1 hk2
            have hi1 : (q : Int) < (n : Int) := by omega
            have hom := hro.max
            have hoc := hro.cap
            unfold maxLen at hom
            have HRO := hide hro
            have HCA := hide CA
            have hgs : g < w5.heap.size := CA.1.lt
            have hhs : h < w5.heap.size := CA.1.lt2
            have hjs : gj < w5.heap.size := CA.2.1.lt
            have hs5 := CA.2.2.2.1.size
            have HH := hide (And.intro hl hr)
            clear hro CA hl hr
            by_cases hodd : kd.tmod 3 = 1
            · have t3 : (kd.tmod 3 == 1) = true := by rw [beq_iff_eq]; exact hodd
              go_wp2_with fail
              obtain ⟨y2, y3⟩ : w5.drew.cell? ⟨b, fo + q * 4 + 2, none⟩ = some (.int .i64 oN) ∧ w5.drew.cell? ⟨b, fo + q * 4 + 3, none⟩ = some (.int .u32 (ov.toNat : Int)) := ⟨x2, x3⟩
              have f0 : Fl w5.drew g h s := (Keeps.refl [] w5).drew.fl HCA.out.1 (by simp) (by simp)
              have hcn : cntN oN 100 ≤ 99 := by have := cntN_lt oN (m := 100) (by omega); omega
              have x1d : w5.drew.cell? ⟨b, fo + q * 4 + 1, none⟩ = some (.slice oA on oc) := x1
              have b5 : b < w5.drew.heap.size := by show b < w5.heap.size; omega
              clear x0 x1 x2 x3 hodd
              go_region_held3 (fun W : World => W.cell? ⟨b, fo + q * 4 + 2, none⟩ = some (.int .i64 oN) ∧ W.cell? ⟨b, fo + q * 4 + 3, none⟩ = some (.int .u32 (ov.toNat : Int))) (first | exact ⟨y2, y3⟩ | exact ⟨y82, y83⟩) (first
                | (go_at_call 23; refine (Count_100 _ _).mono ?_; rintro e wz ⟨rfl, rfl⟩)
                | (go_at_call 17; refine (Cut_near' g h _ (cntN oN 100) ov _ f0 (by omega)).mono ?_; rintro e w8 ⟨rfl, f8, k8⟩; have y82 := (World.cell?_of_block (a := ⟨b, fo + q * 4 + 2, none⟩) (k8.block b b5 (by simp; omega))).trans y2; have y83 := (World.cell?_of_block (a := ⟨b, fo + q * 4 + 3, none⟩) (k8.block b b5 (by simp; omega))).trans y3))
              all_goals
                have z1 := (World.cell?_of_block (a := ⟨b, fo + q * 4 + 1, none⟩) (k8.block b b5 (by simp; omega))).trans x1d
                have k58 : Hid (Keeps [g, h] w5 w8) := ((Keeps.refl [g, h] w5).drew).trans k8 (by simp)
                obtain ⟨s2, hs2'⟩ : ∃ s2 : FS, s2 = ⟨s.ws, s.on, s.ops, some (cntN oN 100, ov)⟩ := ⟨_, rfl⟩
                rw [← hs2'] at f8
                have HS2 : Hid (s2.ws = s.ws ∧ s2.on = s.on ∧ s2.ops = s.ops) := by rw [hs2']; exact ⟨rfl, rfl, rfl⟩
                have F8 := hide f8
                have hs8 : w5.heap.size ≤ w8.heap.size := k8.size
                clear hs2' f8 k8 f0 y2 y3 y82 y83 x1d b5
                go_wp2_with fail
                obtain ⟨_, m2, m3, m4, m5, m6, m7, m8, m9, m10, m11, m12, m13, m14, m15⟩ := HCA.out
                obtain ⟨e1, e2, e3⟩ := HS2.out
                have j8 : Jr w8 gj hj g 1 s2.ws (opJ s2.ws 1) := by rw [e1]; exact k58.out.jr m2 (by simp; exact ⟨m11, m12⟩) (by simp; exact ⟨m9, m10⟩)
                have r8 : Row w8 w.heap.size oA on oc (cs32 ol) := k58.out.row HRO.out (by omega) (by simp; omega)
                have hA8 : 0 < on → ∀ a, oA = some a → a.block ∉ [gj, g, h] := fun h0 a ha => by
                  obtain ⟨b9, o9, e9, hlt9, _⟩ := r8.cells h0
                  rw [e9] at ha; obtain rfl := Option.some.inj ha; simp; omega
                have hon2 : s2.on = true := by rw [e2]; exact m5
                obtain ⟨q1, q2, q3⟩ := apart_step (s := s2) (k := 1) ol hon2 (by rw [e1]; omega)
                obtain ⟨j', aq, HA⟩ := Append_open gj hj g h 1 on oc oA ol s2 w8 j8 m11 m12 m9 m10 F8.out (r8.more (by omega)) hA8 (by rw [e1]; omega) (by omega) hon2
                have HA := hide HA
                obtain ⟨s3, hs3⟩ : ∃ s3, s3 = jS s2 1 (opJ s2.ws 1) ol := ⟨_, rfl⟩
                rw [← hs3] at HA q1 q2 q3
                have o8 := k58.out.own m3 (fun x e => by cases e; simp; exact ⟨m14, m15⟩)
                have HX : Hid (s3.ws.length = 1024 ∧ s3.ops ≤ 70 * (q + 1) ∧ sect s3.ws 0 = sect W 0 ∧ sect s3.ws 3 = sect W 3) := ⟨by rw [q1, e1]; exact m6, by omega, by rw [q3 0 (by omega) (by omega), e1]; exact m8.1, by rw [q3 3 (by omega) (by omega), e1]; exact m8.2⟩
                have k08 := m4.trans k58.out (by simp; omega)
                have H8 := hide (And.intro o8 (And.intro k08 m13))
                have M := hide (And.intro m13 (And.intro m14 m15))
                have hx5 := own_lt m3
                clear m2 m3 m4 m5 m6 m7 m8 m9 m10 m11 m12 m13 m14 m15 e1 e2 e3 j8 r8 hA8 q1 q2 q3 o8 hs3 hon2 k08 HCA HRO HS2 F8 k58
                refine HA.out.mono ?_
                rintro e w9 ⟨rfl, f9, k9, hj9, hhj9, j9⟩
                have o9 := k9.own H8.out.1 (fun x e => by cases e; simp; have := M.out; omega)
                have k09 : Keeps [] w w9 := H8.out.2.1.trans k9 (by simp; omega)
                have hs9 := k9.size
                have H9 := hide (And.intro o9 k09)
                clear o9 k09 k9 j9 hhj9 H8 HA
                go_wp2_with fail
                refine (Start_any g h _ _ f9).mono ?_
                rintro e w10 ⟨rfl, f10, k10⟩
                go_wp2_with fail
                refine (Open_1 g h _ _ f10 rfl (by show 768 ≤ s3.ws.length; have := HX.out.1; omega)).mono ?_
                rintro e w11 ⟨gk, hk, rfl, j11, k11, hgk, hhk⟩
                have hs10 := k10.size
                have hs11 := k11.size
                have C11 : Hid (ApartAt w w11 g h x5 c' (q + 1) gk hk (staS s3) W) := ⟨k11.fl f10 (by simp) (by simp), j11, k11.own (k10.own H9.out.1 (fun x e => by cases e; simp; exact M.out.2)) (by simp), (H9.out.2.trans k10 (by simp; omega)).trans k11 (by simp), rfl, HX.out.1, HX.out.2.1, HX.out.2.2, by omega, by omega, by omega, by omega, by omega, M.out.2.1, M.out.2.2⟩
                clear f9 f10 j11 k10 k11 H9
                go_wp2_with fail
                go_roundw
                case rel => exact ⟨q + 1, gk, hk, staS s3, by omega, by omega, by omega, rfl, by go_num, C11.out⟩
                case measure => simp [intOf]; omega
            · have t3 : (kd.tmod 3 == 1) = false := by rw [beq_eq_false_iff_ne]; exact hodd
              have k58 : Hid (Keeps [g, h] w5 w5) := Keeps.refl _ _
              obtain ⟨s2, hs2'⟩ : ∃ s2 : FS, s2 = s := ⟨_, rfl⟩
              have HS2 : Hid (s2.ws = s.ws ∧ s2.on = s.on ∧ s2.ops = s.ops) := by rw [hs2']; exact ⟨rfl, rfl, rfl⟩
              have F8 : Hid (Fl w5 g h s2) := by rw [hs2']; exact HCA.out.1
              have hs8 : w5.heap.size ≤ w5.heap.size := Nat.le_refl _
              clear hs2' hodd
              go_wp2_with fail
              clear x0 x1 x2 x3
              obtain ⟨_, m2, m3, m4, m5, m6, m7, m8, m9, m10, m11, m12, m13, m14, m15⟩ := HCA.out
              obtain ⟨e1, e2, e3⟩ := HS2.out
              have j8 : Jr w5 gj hj g 1 s2.ws (opJ s2.ws 1) := by rw [e1]; exact k58.out.jr m2 (by simp; exact ⟨m11, m12⟩) (by simp; exact ⟨m9, m10⟩)
              have r8 : Row w5 w.heap.size oA on oc (cs32 ol) := k58.out.row HRO.out (by omega) (by simp; omega)
              have hA8 : 0 < on → ∀ a, oA = some a → a.block ∉ [gj, g, h] := fun h0 a ha => by
                obtain ⟨b9, o9, e9, hlt9, _⟩ := r8.cells h0
                rw [e9] at ha; obtain rfl := Option.some.inj ha; simp; omega
              have hon2 : s2.on = true := by rw [e2]; exact m5
              obtain ⟨q1, q2, q3⟩ := apart_step (s := s2) (k := 1) ol hon2 (by rw [e1]; omega)
              obtain ⟨j', aq, HA⟩ := Append_open gj hj g h 1 on oc oA ol s2 w5 j8 m11 m12 m9 m10 F8.out (r8.more (by omega)) hA8 (by rw [e1]; omega) (by omega) hon2
              have HA := hide HA
              obtain ⟨s3, hs3⟩ : ∃ s3, s3 = jS s2 1 (opJ s2.ws 1) ol := ⟨_, rfl⟩
              rw [← hs3] at HA q1 q2 q3
              have o8 := k58.out.own m3 (fun x e => by cases e; simp; exact ⟨m14, m15⟩)
              have HX : Hid (s3.ws.length = 1024 ∧ s3.ops ≤ 70 * (q + 1) ∧ sect s3.ws 0 = sect W 0 ∧ sect s3.ws 3 = sect W 3) := ⟨by rw [q1, e1]; exact m6, by omega, by rw [q3 0 (by omega) (by omega), e1]; exact m8.1, by rw [q3 3 (by omega) (by omega), e1]; exact m8.2⟩
              have k08 := m4.trans k58.out (by simp; omega)
              have H8 := hide (And.intro o8 (And.intro k08 m13))
              have M := hide (And.intro m13 (And.intro m14 m15))
              have hx5 := own_lt m3
              clear m2 m3 m4 m5 m6 m7 m8 m9 m10 m11 m12 m13 m14 m15 e1 e2 e3 j8 r8 hA8 q1 q2 q3 o8 hs3 hon2 k08 HCA HRO HS2 F8 k58
              refine HA.out.mono ?_
              rintro e w9 ⟨rfl, f9, k9, hj9, hhj9, j9⟩
              have o9 := k9.own H8.out.1 (fun x e => by cases e; simp; have := M.out; omega)
              have k09 : Keeps [] w w9 := H8.out.2.1.trans k9 (by simp; omega)
              have hs9 := k9.size
              have H9 := hide (And.intro o9 k09)
              clear o9 k09 k9 j9 hhj9 H8 HA
              go_wp2_with fail
              refine (Start_any g h _ _ f9).mono ?_
              rintro e w10 ⟨rfl, f10, k10⟩
              go_wp2_with fail
              refine (Open_1 g h _ _ f10 rfl (by show 768 ≤ s3.ws.length; have := HX.out.1; omega)).mono ?_
              rintro e w11 ⟨gk, hk, rfl, j11, k11, hgk, hhk⟩
              have hs10 := k10.size
              have hs11 := k11.size
              have C11 : Hid (ApartAt w w11 g h x5 c' (q + 1) gk hk (staS s3) W) := ⟨k11.fl f10 (by simp) (by simp), j11, k11.own (k10.own H9.out.1 (fun x e => by cases e; simp; exact M.out.2)) (by simp), (H9.out.2.trans k10 (by simp; omega)).trans k11 (by simp), rfl, HX.out.1, HX.out.2.1, HX.out.2.2, by omega, by omega, by omega, by omega, by omega, M.out.2.1, M.out.2.2⟩
              clear f9 f10 j11 k10 k11 H9
              go_wp2_with fail
              go_roundw
              case rel => exact ⟨q + 1, gk, hk, staS s3, by omega, by omega, by omega, rfl, by go_num, C11.out⟩
              case measure => simp [intOf]; omega
          · have hi1 : (q : Int) < (n : Int) := by omega
            have t9 : decide ((q : Int) < 30) = false := by simp; omega
            have HCA := hide CA
            clear CA hl hr
            go_wp2_with fail
            refine (Words_any g h s _ HCA.out.1).mono ?_
            rintro e w9 ⟨x9, c9, rfl, o9, k9, hx9⟩
            obtain ⟨_, _, m3, m4, _, m6, _, ⟨m8, m8'⟩, _⟩ := HCA.out
            have q9 := Row.of_own o9
            have v9 := Row.of_own (k9.own m3 (by simp))
            rw [m6] at q9 ⊢
            obtain ⟨B1, d1, hsl1, y1⟩ := q9.headed Try.underlying36 size32 (hi := 256) (by omega) 256 rfl
            obtain ⟨B2, d2, hsl2, y2⟩ := v9.headed Try.underlying36 size32 (hi := 256) (by omega) 256 rfl
            obtain ⟨B3, d3, hsl3, y3⟩ := q9.tailed Try.underlying36 size32 (lo := 768) (by omega) 768 rfl
            obtain ⟨B4, d4, hsl4, y4⟩ := v9.tailed Try.underlying36 size32 (lo := 768) (by omega) 768 rfl
            simp only [Nat.reduceSub] at hsl3 hsl4 y3 y4
            rw [sect_head, m8] at y1
            rw [sect_head] at y2
            rw [sect_end m6, m8'] at y3
            rw [sect_end HW.out] at y4
            have H1 : Alike2 w9.drew B1 256 d1 B2 256 d2 := Alike2.drewN (k := 1) ⟨_, _, _, y1, y2⟩
            have H2 : ∀ k, Alike2 (w9.drew.drewN k) B3 256 d3 B4 256 d4 := fun k => Alike2.drewN (k := k) (Alike2.drewN (k := 1) ⟨_, _, _, y3, y4⟩)
            have H3 : ∀ k, Alike2 (w9.drewN k) B3 256 d3 B4 256 d4 := fun k => Alike2.drewN (k := k) ⟨_, _, _, y3, y4⟩
            have K9 : Hid (Keeps [] w w9) := m4.trans k9 (by simp)
            clear m3 m4 m6 m8 m8' q9 v9 y1 y2 y3 y4 o9 k9 HCA hx9
            go_wp2_with fail
            go_region_held3 (fun _ : World => True) (trivial) (first
              | (go_at_call 16; refine (Same_ex (by first | exact H1 | exact H2 _ | exact H3 _)).mono ?_; rintro e wz ⟨kd1, rfl, rfl⟩)
              | (go_at_call 10; refine (known_any _).mono ?_; rintro e w14 ⟨rfl, k14⟩))
            all_goals
              go_wp2_with fail
              go_ret
              exact ⟨rfl, ((K9.out.drewN _).trans k14 (by simp)).back⟩
        · have t9 : decide ((q : Int) < (n : Int)) = false := by simp; omega
          have HCA := hide CA
          clear CA hl hr
          go_wp2_with fail
          refine (Words_any g h s _ HCA.out.1).mono ?_
          rintro e w9 ⟨x9, c9, rfl, o9, k9, hx9⟩
          obtain ⟨_, _, m3, m4, _, m6, _, ⟨m8, m8'⟩, _⟩ := HCA.out
          have q9 := Row.of_own o9
          have v9 := Row.of_own (k9.own m3 (by simp))
          rw [m6] at q9 ⊢
          obtain ⟨B1, d1, hsl1, y1⟩ := q9.headed Try.underlying36 size32 (hi := 256) (by omega) 256 rfl
          obtain ⟨B2, d2, hsl2, y2⟩ := v9.headed Try.underlying36 size32 (hi := 256) (by omega) 256 rfl
          obtain ⟨B3, d3, hsl3, y3⟩ := q9.tailed Try.underlying36 size32 (lo := 768) (by omega) 768 rfl
          obtain ⟨B4, d4, hsl4, y4⟩ := v9.tailed Try.underlying36 size32 (lo := 768) (by omega) 768 rfl
          simp only [Nat.reduceSub] at hsl3 hsl4 y3 y4
          rw [sect_head, m8] at y1
          rw [sect_head] at y2
          rw [sect_end m6, m8'] at y3
          rw [sect_end HW.out] at y4
          have H1 : Alike2 w9.drew B1 256 d1 B2 256 d2 := Alike2.drewN (k := 1) ⟨_, _, _, y1, y2⟩
          have H2 : ∀ k, Alike2 (w9.drew.drewN k) B3 256 d3 B4 256 d4 := fun k => Alike2.drewN (k := k) (Alike2.drewN (k := 1) ⟨_, _, _, y3, y4⟩)
          have H3 : ∀ k, Alike2 (w9.drewN k) B3 256 d3 B4 256 d4 := fun k => Alike2.drewN (k := k) ⟨_, _, _, y3, y4⟩
          have K9 : Hid (Keeps [] w w9) := m4.trans k9 (by simp)
          clear m3 m4 m6 m8 m8' q9 v9 y1 y2 y3 y4 o9 k9 HCA hx9
          go_wp2_with fail
          go_region_held3 (fun _ : World => True) (trivial) (first
            | (go_at_call 16; refine (Same_ex (by first | exact H1 | exact H2 _ | exact H3 _)).mono ?_; rintro e wz ⟨kd1, rfl, rfl⟩)
            | (go_at_call 10; refine (known_any _).mono ?_; rintro e w14 ⟨rfl, k14⟩))
          all_goals
            go_wp2_with fail
            go_ret
            exact ⟨rfl, ((K9.out.drewN _).trans k14 (by simp)).back⟩
end Go.Proofs.Ytfchfmekpealjaa
