/-
  A slice of things that are done to a journal, as it lies; the contracts of the laws' helpers light, and Same of words that may differ.
-/
import Derived.Test.YtahnfkoakaimhaaJKnown
namespace Go.Proofs.Ytahnfkoakaimhaa
open Go.RowKit
set_option maxHeartbeats 4000000

structure JO where
  kd : Int
  A : Option Addr
  n : Nat
  c : Nat
  l : List UInt32
  N : Int
  v : UInt32
def joC (o : JO) : List Value := [.int .i64 o.kd, .slice o.A o.n o.c, .int .i64 o.N, .int .u32 (o.v.toNat : Int)]
def joOk (w : World) (o : JO) : Prop := Row w w.heap.size o.A o.n o.c (cs32 o.l) ∧ o.N ≤ 9223372036854775807 ∧ -9223372036854775808 ≤ o.kd ∧ o.kd ≤ 9223372036854775807
structure JOps (w : World) (A : Option Addr) (n c : Nat) (os : List JO) : Prop where
  len : os.length = n
  cap : n ≤ c
  max : c ≤ maxLen
  cells : ∀ j o, os[j]? = some o → ∃ b f, A = some ⟨b, f, none⟩ ∧ b < w.heap.size ∧ ∀ i u, (joC o)[i]? = some u → w.cell? ⟨b, f + j * 4 + i, none⟩ = some u
  oks : ∀ o ∈ os, joOk w o
theorem JOps.get {w w' : World} {A : Option Addr} {n c : Nat} {os : List JO} (h : JOps w A n c os) (k : Keeps [] w w') {j : Nat} (hj : j < n) :
    ∃ (b f : Nat) (o : JO), A = some ⟨b, f, none⟩ ∧ b < w.heap.size ∧ w'.cell? ⟨b, f + j * 4, none⟩ = some (.int .i64 o.kd) ∧ w'.cell? ⟨b, f + j * 4 + 1, none⟩ = some (.slice o.A o.n o.c) ∧ w'.cell? ⟨b, f + j * 4 + 2, none⟩ = some (.int .i64 o.N) ∧ w'.cell? ⟨b, f + j * 4 + 3, none⟩ = some (.int .u32 (o.v.toNat : Int)) ∧ Row w' w.heap.size o.A o.n o.c (cs32 o.l) ∧ o.N ≤ 9223372036854775807 ∧ -9223372036854775808 ≤ o.kd ∧ o.kd ≤ 9223372036854775807 := by
  have hl : j < os.length := by have := h.len; omega
  have he := List.getElem?_eq_getElem hl
  obtain ⟨b, f, hA, hb, hc⟩ := h.cells j _ he
  have hb' : Below w.heap.size w w' := k.back
  obtain ⟨o1, o2, o3, o4⟩ := h.oks _ (List.getElem_mem hl)
  refine ⟨b, f, os[j], hA, hb, ?_, ?_, ?_, ?_, k.row o1 (Nat.le_refl _) (by simp), o2, o3, o4⟩
  · exact (hb'.cell (p := ⟨b, f + j * 4, none⟩) hb).trans (hc 0 _ rfl)
  · exact (hb'.cell (p := ⟨b, f + j * 4 + 1, none⟩) hb).trans (hc 1 _ rfl)
  · exact (hb'.cell (p := ⟨b, f + j * 4 + 2, none⟩) hb).trans (hc 2 _ rfl)
  · exact (hb'.cell (p := ⟨b, f + j * 4 + 3, none⟩) hb).trans (hc 3 _ rfl)
def SaysB (w : World) (e : Ending) (w' : World) : Prop := (∃ b, e = .returned (.bool b)) ∧ w = w'
theorem light_any (A : Option Addr) (n c : Nat) (os : List JO) (w w' : World) (h : JOps w A n c os) (k : Keeps [] w w') :
    Calls Try.prog 5 #[.slice A n c] w' (SaysB w') := by
  have hm := h.max
  have hcap := h.cap
  unfold maxLen at hm
  go_enter Try.func5, Try.ntmps5
  go_wp2_with fail
  go_loopw [3] (fun i wr => ∃ j : Nat, j ≤ n ∧ j ≤ 40 ∧ i = .int .i64 (j : Int) ∧ wr = w') (fun i _ => 40 - (intOf i).toNat)
  case atStart => exact ⟨0, Nat.zero_le _, by omega, rfl, rfl⟩
  case round =>
    obtain ⟨j, hj, hj2, rfl, rfl⟩ := hrel
    by_cases hlt : j < n
    · by_cases hl4 : j < 40
      · obtain ⟨b, f, o, rfl, hb, c0, c1, c2, c3, hro, _, _, _⟩ := h.get k hlt
        have hi1 : (j : Int) < (n : Int) := by omega
        have hom := hro.max
        have hoc := hro.cap
        unfold maxLen at hom
        clear hro h
        obtain ⟨kd, oA, on, oc, ol, oN, ov⟩ := o
        by_cases hbig : 300 < on
        · have hd : decide ((300 : Int) < (on : Int)) = true := by simp; omega
          go_wp2_with fail
          go_ret
          exact ⟨⟨_, rfl⟩, rfl⟩
        · have hd : decide ((300 : Int) < (on : Int)) = false := by simp; omega
          go_wp2_with fail
          go_roundw
          case rel => exact ⟨j + 1, by omega, by omega, by go_num, by trivial⟩
          case measure => simp [intOf]; omega
      · go_wp2_with fail
        go_ret
        exact ⟨⟨_, rfl⟩, rfl⟩
    · have hd : decide ((j : Int) < (n : Int)) = false := by simp; omega
      go_wp2_with fail
      go_ret
      exact ⟨⟨_, rfl⟩, rfl⟩
theorem differs : ∀ (ws zs : List UInt32), ws.length = zs.length → ws ≠ zs → ∃ d, ∃ h : d < ws.length, ∃ h' : d < zs.length, ws[d] ≠ zs[d] ∧ ∀ (i : Nat) (g : i < ws.length) (g' : i < zs.length), i < d → ws[i] = zs[i]
  | [], [], _, hne => absurd rfl hne
  | [], _ :: _, hl, _ => by simp at hl
  | _ :: _, [], hl, _ => by simp at hl
  | a :: ws, b :: zs, hl, hne => by
    by_cases hab : a = b
    · subst hab
      obtain ⟨d, h, h', h1, h2⟩ := differs ws zs (by simpa using hl) (fun e => hne (by rw [e]))
      refine ⟨d + 1, by simp; omega, by simp; omega, by simpa using h1, ?_⟩
      intro i g g' hi
      rcases i with _ | i
      · rfl
      · simp
        exact h2 i (by simpa using g) (by simpa using g') (by omega)
    · exact ⟨0, by simp, by simp, by simpa using hab, fun i _ _ hi => by omega⟩
theorem Same_not (B B' : Nat) (A A' : Option Addr) (n n' c c' : Nat) (ws zs : List UInt32) (w : World) (hr : Row w B A n c (cs32 ws)) (hr' : Row w B' A' n' c' (cs32 zs)) (hne : ws ≠ zs) :
    Calls Try.prog 12 #[.slice A n c, .slice A' n' c'] w (Drew false w) := by
  have hn := hr.len
  have hn' := hr'.len
  rw [cs32_len] at hn hn'
  have hm := hr.max
  have hcap := hr.cap
  have hm' := hr'.max
  have hcap' := hr'.cap
  unfold maxLen at hm hm'
  by_cases hl : n = n'
  · subst hl
    obtain ⟨d, h, h', hd, heq⟩ := differs ws zs (by omega) hne
    subst hn
    have HD := hide (And.intro hne hn')
    have HH := hide heq
    clear hne heq hn'
    go_enter Try.func12, Try.ntmps12
    go_wp2
    go_loopw [5] (fun i wr => ∃ j k : Nat, j ≤ d ∧ i = .int .i64 (j : Int) ∧ wr = w.drewN k) (fun i _ => d - (intOf i).toNat)
    case atStart => exact ⟨0, 0, Nat.zero_le _, rfl, rfl⟩
    case round =>
      obtain ⟨j, k, hj, rfl, rfl⟩ := hrel
      have hjw : j < ws.length := by omega
      have hjz : j < zs.length := by omega
      obtain ⟨b, o, u, rfl, _, hu, hc⟩ := hr.get hjw
      obtain ⟨b', o', u', rfl, _, hu', hc'⟩ := hr'.get hjw
      rw [cs32_at hjw] at hu
      rw [cs32_at hjz] at hu'
      obtain rfl := Option.some.inj hu
      obtain rfl := Option.some.inj hu'
      have hi1 : (j : Int) < (ws.length : Int) := by omega
      by_cases hlt : j < d
      · have he := HH.out j hjw hjz hlt
        rw [← he] at hc'
        have hw := ws[j].toNat_lt
        clear hu hu' hr hr' hd he
        go_wp2
        go_quiet (fail)
        go_wp2
        go_roundw
        case rel => exact ⟨j + 1, k + nq, by omega, by go_num, by first | rfl | exact World.drewN_drewN⟩
        case measure => simp [intOf]; omega
      · obtain rfl : j = d := by omega
        obtain ⟨x, hx⟩ : ∃ x : Nat, x = ws[j].toNat := ⟨_, rfl⟩
        obtain ⟨y, hy⟩ : ∃ y : Nat, y = zs[j].toNat := ⟨_, rfl⟩
        have hxy : x ≠ y := fun e => hd (UInt32.toNat_inj.1 (by omega))
        have hne2 : ((x : Int) != (y : Int)) = true := by rw [bne_iff_ne]; omega
        rw [← hx] at hc
        rw [← hy] at hc'
        clear hu hu' hr hr' hd hx hy hxy HH HD
        go_wp2
        go_quiet (fail)
        go_wp2
        go_ret
        exact ⟨k + nq, rfl, World.drewN_drewN _ _ _⟩
  · have hd : ((n : Int) != (n' : Int)) = true := by rw [bne_iff_ne]; omega
    go_enter Try.func12, Try.ntmps12
    go_wp2
    go_ret
    exact ⟨0, rfl, rfl⟩
theorem Same_dec (B B' : Nat) (A A' : Option Addr) (n n' c c' : Nat) (ws zs : List UInt32) (w : World) (hr : Row w B A n c (cs32 ws)) (hr' : Row w B' A' n' c' (cs32 zs)) :
    Calls Try.prog 12 #[.slice A n c, .slice A' n' c'] w (Drew (decide (ws = zs)) w) := by
  by_cases h : ws = zs
  · subst h; rw [decide_eq_true rfl]; exact Same_any B B' A A' n n' c c' ws w hr hr'
  · rw [decide_eq_false h]; exact Same_not B B' A A' n n' c c' ws zs w hr hr' h
end Go.Proofs.Ytahnfkoakaimhaa
