/-
  The reference (midstreamref07): words, Walk.
-/
import Derived.Test.YtahnfkoakaimhaaJRef
namespace Go.Proofs.Ytahnfkoakaimhaa
open Go.RowKit
set_option maxHeartbeats 4000000

def clB (l : List UInt32) (u j : Nat) : Bool := ((l.drop u).take (j - u)).all (· == ones32)
theorem clB_start (l : List UInt32) (u : Nat) : clB l u u = true := by unfold clB; simp
theorem clB_end (l : List UInt32) (u : Nat) : clB l u l.length = cleanB l u := by
  unfold clB cleanB; rw [List.take_of_length_le (by simp)]
theorem clB_step {l : List UInt32} {u j : Nat} (h : u ≤ j) (hj : j < l.length) : clB l u (j + 1) = (clB l u j && ((l[j].toNat : Int) == 4294967295)) := by
  unfold clB
  rw [show j + 1 - u = (j - u) + 1 by omega, List.take_add_one, List.getElem?_drop, show u + (j - u) = j by omega, List.getElem?_eq_getElem hj]
  simp only [Option.toList_some, List.all_append, List.all_cons, List.all_nil, Bool.and_true]
  congr 1
  have := ones_ne l[j]
  rw [Bool.eq_iff_iff]
  simp only [beq_iff_eq]
  constructor
  · intro h; rw [h]; rfl
  · intro h
    by_cases h2 : l[j] = ones32
    · exact h2
    · rw [decide_eq_false h2] at this; simp at this; exact absurd h this
theorem Row.lower {w : World} {B B' n c : Nat} {A : Option Addr} {xs : List Value} (h : Row w B A n c xs) (hA : ∀ a, A = some a → a.block < B') : Row w B' A n c xs :=
  ⟨h.len, h.cap, h.max, h.nil, fun hn => by
    obtain ⟨b, o, e, _, hc⟩ := h.cells hn
    exact ⟨b, o, e, hA _ e, hc⟩⟩
def WordsR (w : World) (B : Nat) (l : List UInt32) (e : Ending) (w' : World) : Prop := ∃ A c, e = .returned (.slice A 256 c) ∧ Row w B A 256 c (cs32 l) ∧ w = w'
theorem rwords_any (g h k : Nat) (s : FS) (w : World) (f : Rf w g h s) (hk : 256 * (k + 1) ≤ s.ws.length) :
    Calls Try.prog 30 #[.pointer (some ⟨g, 0, none⟩), .int .i64 (k : Int)] w (WordsR w (h + 1) (sect s.ws k)) := by
  obtain ⟨c, m, _, hb, ho⟩ := f.ex
  have hlen := len_pos f.ok
  have c0 : w.cell? ⟨g, 0, none⟩ = some (.slice (some ⟨h, 0, none⟩) s.ws.length c) := hb.cell (j := 0) rfl
  have r0 := (Row.of_own ho).lower (B' := h + 1) (fun a e => by cases e; exact Nat.lt_succ_self h)
  have hk15 : k ≤ 15 := by omega
  obtain ⟨A2, c2, hsl2, r2⟩ := r0.sliced Try.underlying36 size32 (lo := 256 * k) (hi := 256 * k + 256) (by omega) (by omega) ((k : Int) * 256) ((k : Int) * 256 + 256) (by omega) (by omega)
  rw [show 256 * k + 256 - 256 * k = 256 by omega] at hsl2 r2
  rw [(sect_rows s.ws k).1] at r2
  have R2 := hide r2
  have HK := hide (And.intro hk hlen)
  clear r0 r2 ho hb hk hlen
  go_enter Try.func30, Try.ntmps30
  go_wp2
  go_ret
  exact ⟨A2, c2, rfl, R2.out, rfl⟩
def WalkR (w : World) (B : Nat) (l : List UInt32) (e : Ending) (w' : World) : Prop :=
  Below w.heap.size w w' ∧ ∃ A k c, e = .returned (.tuple #[.int .u32 ((walkW l).num : Int), .slice A k c, .int .i64 ((walkW l).used : Int), .bool (cleanB l (walkW l).used)]) ∧ Row w B A k c (cs32 (walkW l).rcd)
theorem results_tmp4 {fn : Func} {t u v x : Tmp} (h : fn.results = #[.tmp t, .tmp u, .tmp v, .tmp x]) (tmps : Array Value) (P : Program) (w : World) :
    (results fn tmps).run P w = .ok (.tuple #[tmps.getD t undef, tmps.getD u undef, tmps.getD v undef, tmps.getD x undef]) w := by
  simp [results, h]
theorem rWalk_any (B : Nat) (A : Option Addr) (n c : Nat) (l : List UInt32) (w : World) (hr : Row w B A n c (cs32 l)) (hB : B ≤ w.heap.size) (hn : n ≤ 256) :
    Calls Try.prog 29 #[.slice A n c] w (WalkR w B l) := by
  have hln := hr.len
  rw [cs32_len] at hln
  go_enter Try.func29, Try.ntmps29
  go_wp2_with fail
  go_loopw [6, 7, 8] (fun nu sl at_ wr => ∃ (A' : Option Addr) (k c' : Nat) (s : SV), nu = .int .u32 (s.num : Int) ∧ sl = .slice A' k c' ∧ at_ = .int .i64 (s.used : Int) ∧ Below w.heap.size w wr ∧ Row w B A' k c' (cs32 s.rcd) ∧ Hid (Ends l s (walkW l)) ∧ s.used ≤ n ∧ s.num ≤ 2147483647) (fun _ _ at_ _ => n - (intOf at_).toNat)
  case atStart => exact ⟨none, 0, 0, sv0, rfl, rfl, rfl, Below.refl _ _, Row.none_, Ends.start l, Nat.zero_le _, Nat.zero_le _⟩
  case round =>
    obtain ⟨A', k, c', s, rfl, rfl, rfl, hb, hrow, HE, hu, hnum⟩ := hrel
    have hbs := hb.size
    go_wp2_with fail
    refine (one_any B _ _ _ l s.used wr (hr.keep hb hB) (by omega) hn hu).mono ?_
    rintro e w4 ⟨hb4, hv⟩
    have hb24 : Below w.heap.size w w4 := hb.trans (hb4.mono hbs)
    rcases hv with ⟨hv, rfl⟩ | ⟨N, r, A3, k3, c3, hv, rfl, hrow3⟩
    · have HW := hide (HE.out.last (show stepW l s = none by unfold stepW; rw [hv]))
      have HX := hide hrow
      clear hrow HE hb hb4 hv hnum
      go_wp2_with fail
      generalize w4 = w5 at hb24 ⊢
      go_loopw [11, 12] (fun cl i wx => ∃ j : Nat, s.used ≤ j ∧ j ≤ n ∧ cl = .bool (clB l s.used j) ∧ i = .int .i64 (j : Int) ∧ wx = w5) (fun _ i _ => n - (intOf i).toNat)
      case atStart => exact ⟨s.used, Nat.le_refl _, hu, by rw [clB_start], rfl, rfl⟩
      case round =>
        obtain ⟨j, hj1, hj2, rfl, rfl, rfl⟩ := hrel
        by_cases hlt : j < n
        · have hjl : j < l.length := by omega
          have HC := hide (clB_step hj1 hjl)
          obtain ⟨b, o, u, rfl, _, hcu, hcell⟩ := (hr.keep hb24 hB).get hlt
          rw [cs32_at hjl] at hcu
          obtain rfl := Option.some.inj hcu
          have hi1 : (j : Int) < (n : Int) := by omega
          clear hcu
          obtain ⟨cb, hcb⟩ : ∃ cb, cb = clB l s.used j := ⟨_, rfl⟩
          rw [← hcb] at HC ⊢
          obtain ⟨xb, hxb⟩ : ∃ xb, xb = ((l[j].toNat : Int) == 4294967295) := ⟨_, rfl⟩
          rw [← hxb] at HC
          have hxb' := hxb.symm
          clear hcb hxb
          rcases cb with _ | _
          · go_wp2_with fail
            go_roundw
            case rel => exact ⟨j + 1, by omega, by omega, by rw [HC.out]; rfl, by go_num, by trivial⟩
            case measure => simp [intOf]; omega
          · go_wp2_with fail
            go_roundw
            case rel => exact ⟨j + 1, by omega, by omega, by rw [HC.out]; rfl, by go_num, by trivial⟩
            case measure => simp [intOf]; omega
        · obtain rfl : j = n := by omega
          have HCE : Hid (clB l s.used j = cleanB l s.used) := by show clB l s.used j = _; rw [← hln]; exact clB_end l s.used
          rw [HCE.out]
          go_wp2
          try simp only [Exit.inBlock, Exit.then]
          refine bodyPost_ret (results_tmp4 rfl _ _ _) rfl ?_
          exact ⟨hb24, A', k, c', by rw [HW.out]; rfl, by rw [HW.out]; exact HX.out⟩
    · obtain ⟨hok, t, ht⟩ := laid_valid hv
      have h3 := hrow3.len
      rw [cs32_len] at h3
      have hk64 : k3 ≤ 64 := by have := hok.2.2.2; omega
      have hNb : 1 ≤ N ∧ N ≤ 2147483647 := ⟨hok.1, hok.2.1⟩
      have t0 : ((N : Int) == 0) = false := by rw [beq_eq_false_iff_ne]; omega
      obtain ⟨m1, hm1, HM1⟩ : ∃ m1 : Nat, IntKind.u32.wrap ((s.num : Int) + 1) = (m1 : Int) ∧ Hid (m1 = s.num + 1) := ⟨s.num + 1, by simp only [IntKind.wrap, IntKind.bits, IntKind.signed]; simp; omega, rfl⟩
      have HL3 := hide h3
      by_cases hgo : s.num = 0 ∨ N = s.num + 1
      · have HS := hide (show stepW l s = some ⟨N, r, s.used + (r.length + 4)⟩ by unfold stepW; rw [hv]; exact if_pos hgo)
        have key : (((s.num : Int) != 0) = false) ∨ (((s.num : Int) != 0) = true ∧ ((N : Int) != (m1 : Int)) = false) := by
          simp only [bne_iff_ne, bne_eq_false_iff_eq]; have := HM1.out; omega
        have HN := hide (And.intro hNb hnum)
        have HK := hide (And.intro (hrow3.back hb hB) hb24)
        have HU2 := hide (stepW_used HS.out)
        clear hgo hv ht hok t hrow h3 hNb hnum hrow3 hb hb4 hb24
        rcases key with e1 | ⟨e1, e2⟩
        all_goals
          go_wp2_with fail
          go_roundw
          case rel => exact ⟨A3, k3, c3, ⟨N, r, s.used + (r.length + 4)⟩, rfl, rfl, by have := HL3.out; go_num, HK.out.2, HK.out.1, HE.out.next HS.out, by rw [← hln]; exact HU2.out.2, HN.out.1.2⟩
          case measure =>
            have h5 : s.used + (r.length + 4) ≤ l.length := HU2.out.2
            have := HL3.out
            simp [intOf]; omega
      · have HW := hide (HE.out.last (show stepW l s = none by unfold stepW; rw [hv]; exact if_neg hgo))
        have e1 : ((s.num : Int) != 0) = true := by rw [bne_iff_ne]; omega
        have e2 : ((N : Int) != (m1 : Int)) = true := by rw [bne_iff_ne]; have := HM1.out; omega
        have HX := hide hrow
        clear hgo hv ht hok t h3 hNb hnum hrow3 hrow HE hb hb4 hk64
        go_wp2_with fail
        generalize w4 = w5 at hb24 ⊢
        go_loopw [11, 12] (fun cl i wx => ∃ j : Nat, s.used ≤ j ∧ j ≤ n ∧ cl = .bool (clB l s.used j) ∧ i = .int .i64 (j : Int) ∧ wx = w5) (fun _ i _ => n - (intOf i).toNat)
        case atStart => exact ⟨s.used, Nat.le_refl _, hu, by rw [clB_start], rfl, rfl⟩
        case round =>
          obtain ⟨j, hj1, hj2, rfl, rfl, rfl⟩ := hrel
          by_cases hlt : j < n
          · have hjl : j < l.length := by omega
            have HC := hide (clB_step hj1 hjl)
            obtain ⟨b, o, u, rfl, _, hcu, hcell⟩ := (hr.keep hb24 hB).get hlt
            rw [cs32_at hjl] at hcu
            obtain rfl := Option.some.inj hcu
            have hi1 : (j : Int) < (n : Int) := by omega
            clear hcu
            obtain ⟨cb, hcb⟩ : ∃ cb, cb = clB l s.used j := ⟨_, rfl⟩
            rw [← hcb] at HC ⊢
            obtain ⟨xb, hxb⟩ : ∃ xb, xb = ((l[j].toNat : Int) == 4294967295) := ⟨_, rfl⟩
            rw [← hxb] at HC
            have hxb' := hxb.symm
            clear hcb hxb
            rcases cb with _ | _
            · go_wp2_with fail
              go_roundw
              case rel => exact ⟨j + 1, by omega, by omega, by rw [HC.out]; rfl, by go_num, by trivial⟩
              case measure => simp [intOf]; omega
            · go_wp2_with fail
              go_roundw
              case rel => exact ⟨j + 1, by omega, by omega, by rw [HC.out]; rfl, by go_num, by trivial⟩
              case measure => simp [intOf]; omega
          · obtain rfl : j = n := by omega
            have HCE : Hid (clB l s.used j = cleanB l s.used) := by show clB l s.used j = _; rw [← hln]; exact clB_end l s.used
            rw [HCE.out]
            go_wp2
            try simp only [Exit.inBlock, Exit.then]
            refine bodyPost_ret (results_tmp4 rfl _ _ _) rfl ?_
            exact ⟨hb24, A', k, c', by rw [HW.out]; rfl, by rw [HW.out]; exact HX.out⟩
end Go.Proofs.Ytahnfkoakaimhaa
