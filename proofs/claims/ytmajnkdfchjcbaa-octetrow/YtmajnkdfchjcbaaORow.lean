/-
  The statement OctetRow: the call returns true and changes nothing that was there.
-/
import Derived.Test.YtmajnkdfchjcbaaORuns
namespace Go.Proofs.Ytmajnkdfchjcbaa
open Go.RowKit
set_option maxHeartbeats 1600000

/-- A slice of slices of bytes. -/
structure Grid (w : World) (B : Nat) (A : Option Addr) (n c : Nat) (ls : List (List UInt8)) : Prop where
  len : ls.length = n
  cell : ∀ i (h : i < ls.length), ∃ b o Ai ni ci, A = some ⟨b, o, none⟩ ∧ b < B ∧ w.cell? ⟨b, o + i, none⟩ = some (.slice Ai ni ci) ∧ Row w B Ai ni ci (cs8 ls[i])
theorem Grid.keep {w w' : World} {B B' n c : Nat} {A : Option Addr} {ls : List (List UInt8)} (h : Grid w B A n c ls) (hb : Below B' w w') (hB : B ≤ B') : Grid w' B A n c ls :=
  ⟨h.len, fun i hi => by
    obtain ⟨b, o, Ai, ni, ci, e, hlt, hc, hr⟩ := h.cell i hi
    exact ⟨b, o, Ai, ni, ci, e, hlt, (hb.cell (p := ⟨b, o + i, none⟩) (show b < B' by omega)).trans hc, hr.keep hb hB⟩⟩
/-- Runs one behind the other. -/
def runs (ls : List (List UInt8)) : List UInt8 := ls.flatMap fun x => leB 2 x.length ++ x
theorem runs_snoc (ls : List (List UInt8)) (x : List UInt8) : runs (ls ++ [x]) = runs ls ++ leB 2 x.length ++ x := by simp [runs]
theorem runs_take (ls : List (List UInt8)) (j : Nat) (h : j < ls.length) : runs (ls.take (j + 1)) = runs (ls.take j) ++ leB 2 ls[j].length ++ ls[j] := by
  rw [List.take_succ_eq_append_getElem h, runs_snoc]
theorem runs_parts (ls : List (List UInt8)) (j : Nat) (h : j < ls.length) : ∃ r, runs ls = runs (ls.take j) ++ (leB 2 ls[j].length ++ (ls[j] ++ r)) := by
  refine ⟨runs (ls.drop (j + 1)), ?_⟩
  have e : ls = ls.take j ++ (ls[j] :: ls.drop (j + 1)) := by rw [← drop_step ls j h, List.take_append_drop]
  have e2 : runs ls = runs (ls.take j) ++ runs (ls[j] :: ls.drop (j + 1)) := by
    unfold runs; rw [← List.flatMap_append, ← e]
  rw [e2]
  unfold runs
  rw [List.flatMap_cons, List.append_assoc]
theorem runs_short (ls : List (List UInt8)) (j : Nat) (h : ∀ i (hi : i < ls.length), i < j → ls[i].length ≤ 2000) (hj : j ≤ ls.length) : (runs (ls.take j)).length ≤ 2002 * j := by
  induction j with
  | zero => simp [runs]
  | succ j ih =>
    rw [runs_take ls j (by omega), List.length_append, List.length_append, leB_len]
    have h1 := ih (fun i hi hij => h i hi (by omega)) (by omega)
    have h2 := h j (by omega) (by omega)
    omega
theorem run_here (ls : List (List UInt8)) (j a : Nat) (h : j < ls.length) (ha : (runs (ls.take j)).length = a) (hs : ls[j].length ≤ 2000) :
    grE (runs ls) (a : Int) = 0 ∧ grL (runs ls) (a : Int) = ls[j] ∧ grT (runs ls) (a : Int) = (a : Int) + 2 + (ls[j].length : Int) := by
  obtain ⟨r, hp⟩ := runs_parts ls j h
  have hN : runN (runs ls) a = ls[j].length := by
    unfold runN
    rw [hp, List.drop_left' ha, List.take_left' (leB_len _ _), leN_leB, Nat.mod_eq_of_lt (by omega)]
  have hl : (runs ls).length = a + (2 + (ls[j].length + r.length)) := by
    rw [hp, List.length_append, List.length_append, List.length_append, leB_len, ha]
  have hE : grE (runs ls) (a : Int) = 0 := grE_ok (by rw [hN]; omega)
  refine ⟨hE, ?_, by rw [grT_ok hE, hN]⟩
  rw [grL_ok hE, hN, ← List.drop_drop, hp, List.drop_left' ha, List.drop_left' (leB_len _ _), List.take_left' rfl]
theorem run_end (l : List UInt8) (a : Nat) (ha : l.length = a) : grE l (a : Int) = 2 ∧ grL l (a : Int) = [] ∧ grT l (a : Int) = 0 := by
  have hE : grE l (a : Int) = 2 := grE_short (by omega) (by omega)
  exact ⟨hE, grL_bad (by rw [hE]; decide), grT_bad (by rw [hE]; decide)⟩
theorem GetRun_at (B : Nat) (A : Option Addr) (n c : Nat) (l : List UInt8) (a : Int) (w : World) (r : List UInt8) (to er : Int) (h : grE l a = er ∧ grL l a = r ∧ grT l a = to) (hr : Row w B A n c (cs8 l)) (hB : B ≤ w.heap.size) (hl : n ≤ 1099511627776) :
    Calls Try.prog 20 #[.slice A n c, .int .i64 a] w (Gives3 w r to er) := by
  obtain ⟨rfl, rfl, rfl⟩ := h
  exact GetRun_any B A n c l a w hr hB hl
theorem row_walk (A : Option Addr) (n c : Nat) (ls : List (List UInt8)) (w : World) (hr : Grid w w.heap.size A n c ls) :
    Calls Try.prog 8 #[.slice A n c] w fun e w' => e = .returned (.bool true) ∧ Below w.heap.size w w' := by
  have hn := hr.len
  subst hn
  by_cases hbig : 100 < ls.length
  · have hd : decide ((100 : Int) < (ls.length : Int)) = true := by simp; omega
    go_enter Try.func8, Try.ntmps8
    go_wp2_with (go_at_call 10; refine (known_any _).mono ?_; rintro e w1 ⟨rfl, hb1⟩)
    go_ret
    exact ⟨rfl, hb1⟩
  have hd : decide ((100 : Int) < (ls.length : Int)) = false := by simp; omega
  go_enter Try.func8, Try.ntmps8
  go_wp2
  go_loopw [3, 4] (fun s i wr => ∃ (j : Nat) (A' : Option Addr) (n' c' : Nat), j ≤ ls.length ∧ i = .int .i64 (j : Int) ∧ s = .slice A' n' c' ∧ wr.ownsRow w.heap.size 5 1 (.slice A' n' c') n' (cs8 (runs (ls.take j))) ∧ Below w.heap.size w wr ∧ Hid (∀ i (hi : i < ls.length), i < j → ls[i].length ≤ 2000)) (fun _ i _ => ls.length - (intOf i).toNat)
  case atStart => exact ⟨0, _, _, _, Nat.zero_le _, rfl, rfl, World.ownsRow_nil _ _ _ _, Below.refl _ _, fun _ _ h => absurd h (by omega)⟩
  case round =>
    obtain ⟨j, A', n', c', hj, rfl, rfl, ho, hb, HS⟩ := hrel
    have hbs := hb.size
    have hn' : n' ≤ 300000 := by
      have h1 := own8_len ho
      have h2 := runs_short ls j HS.out hj
      omega
    by_cases hlt : j < ls.length
    · obtain ⟨b, o, Ai, ni, ci, rfl, hbB, hcell, hri⟩ := (hr.keep hb (Nat.le_refl _)).cell j hlt
      have hni : ls[j].length = ni := by have := hri.len; rwa [cs8_len] at this
      have HNI := hide hni
      clear hni
      by_cases h2k : 2000 < ni
      · have hd2 : decide ((2000 : Int) < (ni : Int)) = true := by simp; omega
        go_wp2_with (go_at_call 10; refine (known_any _).mono ?_; rintro e w1 ⟨rfl, hb1⟩)
        go_ret
        exact ⟨rfl, hb.trans (hb1.mono hbs)⟩
      · have hd2 : decide ((2000 : Int) < (ni : Int)) = false := by simp; omega
        have hp := PutRun_any wr.heap.size A' n' c' (runs (ls.take j)) Ai ni ci ls[j] wr (Row.of_own ho) (hri.more hbs) (Nat.le_refl _) (by omega)
        rw [prL_ok (by rw [HNI.out]; omega), prE_ok (by rw [HNI.out]; omega), ← runs_take ls j hlt] at hp
        have HP := hide hp
        clear hp
        go_wp2_with (go_at_call 18; refine HP.out.mono ?_; rintro e w1 ⟨A1, n1, c1, rfl, ho1, hb1⟩)
        go_roundw
        case rel => exact ⟨j + 1, A1, n1, c1, by omega, by go_num, rfl, own_base hbs ho1, hb.trans (hb1.mono hbs), fun i hi hij => by
          by_cases h : i < j
          · exact HS.out i hi h
          · have : i = j := by omega
            subst this
            rw [HNI.out]; omega⟩
        case measure => simp [intOf]; omega
    · obtain rfl : j = ls.length := by omega
      rw [List.take_length] at ho
      have hall : Hid (∀ i (hi : i < ls.length), ls[i].length ≤ 2000) := fun i hi => HS.out i hi hi
      clear HS
      have hrow := Row.of_own ho
      have hl' : (runs ls).length = n' := own8_len ho
      have HL := hide hl'
      clear hl'
      go_wp2_with fail
      go_loopw [7, 8] (fun s i w2 => ∃ (j a : Nat), j ≤ ls.length ∧ i = .int .i64 (j : Int) ∧ s = .int .i64 (a : Int) ∧ Hid ((runs (ls.take j)).length = a) ∧ Below wr.heap.size wr w2) (fun _ i _ => ls.length - (intOf i).toNat)
      case atStart => exact ⟨0, 0, Nat.zero_le _, rfl, rfl, rfl, Below.refl _ _⟩
      case round =>
        obtain ⟨j, a, hj, rfl, rfl, HA, hb2⟩ := hrel
        have hs2 := hb2.size
        have hb02 := hb.trans (hb2.mono hbs)
        have ha3 : a ≤ 300000 := by
          have h1 := HA.out
          have h2 := runs_short ls j (fun i hi _ => hall.out i hi) hj
          omega
        by_cases hlt : j < ls.length
        · obtain ⟨b, o, Ai, ni, ci, rfl, hbB, hcell, hri⟩ := (hr.keep hb02 (Nat.le_refl _)).cell j hlt
          have hni : ls[j].length = ni := by have := hri.len; rwa [cs8_len] at this
          have HNI := hide hni
          clear hni
          have hni3 : ni ≤ 2000 := by have := hall.out j hlt; rw [HNI.out] at this; exact this
          have hg := run_here ls j a hlt HA.out (hall.out j hlt)
          rw [HNI.out] at hg
          have HG := hide hg
          have HNX : Hid ((runs (ls.take (j + 1))).length = a + 2 + ni) := by
            show _ = _
            rw [runs_take ls j hlt, List.length_append, List.length_append, leB_len, HA.out, HNI.out]
          clear hg
          go_wp2_with fail
          refine (GetRun_at _ _ _ _ (runs ls) _ _ ls[j] ((a : Int) + 2 + (ni : Int)) 0 HG.out (hrow.keep hb2 (Nat.le_refl _)) hs2 (by omega)).mono ?_
          rintro e w3 ⟨A3, n3, c3, rfl, ho3, hb3⟩
          have hb03 := hb02.trans (hb3.mono (by omega))
          have qx := fun t => ((Row.of_own ho3).drewN t).str8
          have qi := fun t => ((hri.keep hb3 (by omega)).drewN t).str8
          have hc3 : w3.cell? ⟨b, o + j, none⟩ = some (.slice Ai ni ci) := (hb3.cell (p := ⟨b, o + j, none⟩) (show b < _ by omega)).trans hcell
          have hi1 : (j : Int) < (ls.length : Int) := by omega
          have u1 : IntKind.i64.wrap ((a : Int) + 2) = (a : Int) + 2 := IntWalk.i64_in _ (by omega)
          have u2 : IntKind.i64.wrap ((a : Int) + 2 + (ni : Int)) = (a : Int) + 2 + (ni : Int) := IntWalk.i64_in _ (by omega)
          clear hcell
          go_wp2_with fail
          go_quiet (fail)
          clear qx qi u1 u2
          go_wp2
          go_roundw
          case rel => exact ⟨j + 1, a + 2 + ni, by omega, by go_num, by go_num, HNX, (hb2.trans (hb3.mono hs2)).trans (below_drewN _ _ _)⟩
          case measure => simp [intOf]; omega
        · obtain rfl : j = ls.length := by omega
          obtain rfl : a = n' := by have := HA.out; rw [List.take_length, HL.out] at this; omega
          have HG := hide (run_end (runs ls) a HL.out)
          go_wp2_with (first
            | (go_at_call 20; refine (GetRun_at _ _ _ _ (runs ls) _ _ [] 0 2 HG.out (hrow.keep hb2 (Nat.le_refl _)) hs2 (by omega)).mono ?_; rintro e w3 ⟨A3, n3, c3, rfl, ho3, hb3⟩)
            | (go_at_call 10; refine (known_any _).mono ?_; rintro e w4 ⟨rfl, hb4⟩))
          go_ret
          have hs3 := hb3.size
          exact ⟨rfl, (hb02.trans (hb3.mono (by omega))).trans (hb4.mono (by omega))⟩
end Go.Proofs.Ytmajnkdfchjcbaa
