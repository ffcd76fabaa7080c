/-
  Contracts of the document's own answers of layer 12: letter, digit, run, among, Word, Mark, Name.
-/
import Derived.Test.YtbcgofmhplgfbaaDoorLText
namespace Go.Proofs.YtbcgofmhplgfbaaDoor
open Go.RowKit
set_option maxHeartbeats 1000000

theorem rletter_any (c : UInt8) (w : World) : Calls Tryd.prog 23 #[.int .u8 (c.toNat : Nat)] w fun e w' => e = .returned (.bool (isLet c)) ∧ w = w' := by
  have E := hide (show isLet c = (decide (97 ≤ c.toNat) && decide (c.toNat ≤ 122)) from rfl)
  by_cases h1 : 97 ≤ c.toNat
  · by_cases h2 : c.toNat ≤ 122
    · go_enter Tryd.func23, Tryd.ntmps23
      go_wp2
      go_ret
      exact ⟨ret_b (by rw [E.out]; simp [h1]; omega), rfl⟩
    · go_enter Tryd.func23, Tryd.ntmps23
      go_wp2
      go_ret
      exact ⟨ret_b (by rw [E.out]; simp [h1]; omega), rfl⟩
  · go_enter Tryd.func23, Tryd.ntmps23
    go_wp2
    go_ret
    exact ⟨ret_b (by rw [E.out]; simp [h1]), rfl⟩
theorem rdigit_any (c : UInt8) (w : World) : Calls Tryd.prog 32 #[.int .u8 (c.toNat : Nat)] w fun e w' => e = .returned (.bool (isDig c)) ∧ w = w' := by
  have E := hide (show isDig c = (decide (48 ≤ c.toNat) && decide (c.toNat ≤ 57)) from rfl)
  by_cases h1 : 48 ≤ c.toNat
  · by_cases h2 : c.toNat ≤ 57
    · go_enter Tryd.func32, Tryd.ntmps32
      go_wp2
      go_ret
      exact ⟨ret_b (by rw [E.out]; simp [h1]; omega), rfl⟩
    · go_enter Tryd.func32, Tryd.ntmps32
      go_wp2
      go_ret
      exact ⟨ret_b (by rw [E.out]; simp [h1]; omega), rfl⟩
  · go_enter Tryd.func32, Tryd.ntmps32
    go_wp2
    go_ret
    exact ⟨ret_b (by rw [E.out]; simp [h1]), rfl⟩
theorem fits_one {p : UInt8 → Bool} {s : ByteArray} {j : Nat} (hf : Fits p s j) (h : j < s.size) (hp : p (s[j]'h) = true) : Fits p s (j + 1) :=
  ⟨h, fun i hi => by
    by_cases e : i = j
    · subst e; rw [get_bang s i h]; exact hp
    · exact hf.2 i (by omega)⟩
theorem fits_at {p : UInt8 → Bool} {s : ByteArray} {j : Nat} (hf : Fits p s j) (h : j < s.size) (hp : p (s[j]'h) = false) : runL p s.data.toList = j := by
  apply runL_at (by rw [size_list]; exact hf.1)
  · intro i hi
    rw [get_list s i (by omega)]
    exact hf.2 i hi
  · intro hl
    rw [get_list s j h, get_bang s j h]; exact hp
theorem inW_let {c : UInt8} (h : isLet c = true) : inW c = true := by simp [inW, h]
theorem inW_dig {c : UInt8} (h : isDig c = true) : inW c = true := by simp [inW, h]
theorem inW_no {c : UInt8} (h : isLet c = false) (h2 : isDig c = false) : inW c = (c.toNat == 95) := by simp [inW, h, h2]
theorem rrun_any (s : ByteArray) (hs : s.size ≤ maxLen) (w : World) : Calls Tryd.prog 24 #[.string s, .int .i64 0, .int .i64 0] w fun e w' => e = .returned (.int .i64 (runL inW s.data.toList : Nat)) ∧ w = w' := by
  unfold maxLen at hs
  go_enter Tryd.func24, Tryd.ntmps24
  go_wp2_with fail
  go_loop [7] (fun i => ∃ j : Nat, i = .int .i64 (j : Int) ∧ j ≤ s.size ∧ Hid (Fits inW s j)) (fun i => s.size - (intOf i).toNat)
  case atStart => exact ⟨0, rfl, Nat.zero_le _, hide ⟨Nat.zero_le _, fun j hj => absurd hj (by omega)⟩⟩
  case round =>
    obtain ⟨j, rfl, hj, HF⟩ := hrel
    by_cases hlt : j < s.size
    · rcases h1 : isDig (s[j]'hlt)
      · rcases h2 : isLet (s[j]'hlt)
        · have H1 := hide h1
          have H2 := hide h2
          rcases h3 : ((s[j]'hlt).toNat == 95)
          · have HS := hide (fits_at HF.out hlt ((inW_no h2 h1).trans h3))
            have h3' : (((s[j]'hlt).toNat : Int) != 95) = true := by simp at h3 ⊢; omega
            clear h1 h2 h3
            go_wp2_with (first
              | (go_at_call 32; refine (rdigit_any _ _).mono ?_; rw [H1.out]; rintro e w' ⟨rfl, rfl⟩)
              | (go_at_call 23; refine (rletter_any _ _).mono ?_; rw [H2.out]; rintro e w' ⟨rfl, rfl⟩))
            go_ret
            exact ⟨ret_n (by rw [HS.out]), rfl⟩
          · have HS := hide (fits_one HF.out hlt ((inW_no h2 h1).trans h3))
            have h3' : (((s[j]'hlt).toNat : Int) != 95) = false := by simp at h3 ⊢; omega
            clear h1 h2 h3
            go_wp2_with (first
              | (go_at_call 32; refine (rdigit_any _ _).mono ?_; rw [H1.out]; rintro e w' ⟨rfl, rfl⟩)
              | (go_at_call 23; refine (rletter_any _ _).mono ?_; rw [H2.out]; rintro e w' ⟨rfl, rfl⟩))
            go_round
            case rel => exact ⟨j + 1, by go_num, by omega, HS⟩
            case measure => simp [intOf]; omega
        · have HS := hide (fits_one HF.out hlt (inW_let h2))
          have H1 := hide h1
          have H2 := hide h2
          clear h1 h2
          go_wp2_with (first
            | (go_at_call 32; refine (rdigit_any _ _).mono ?_; rw [H1.out]; rintro e w' ⟨rfl, rfl⟩)
            | (go_at_call 23; refine (rletter_any _ _).mono ?_; rw [H2.out]; rintro e w' ⟨rfl, rfl⟩))
          go_round
          case rel => exact ⟨j + 1, by go_num, by omega, HS⟩
          case measure => simp [intOf]; omega
      · have HS := hide (fits_one HF.out hlt (inW_dig h1))
        have H1 := hide h1
        clear h1
        go_wp2_with (first
          | (go_at_call 32; refine (rdigit_any _ _).mono ?_; rw [H1.out]; rintro e w' ⟨rfl, rfl⟩))
        go_round
        case rel => exact ⟨j + 1, by go_num, by omega, HS⟩
        case measure => simp [intOf]; omega
    · have HE := hide (fits_end HF.out hlt)
      go_wp2
      go_ret
      exact ⟨ret_n (by rw [HE.out]; omega), rfl⟩
theorem among_any (b : Nat) (xs : List (List UInt8)) (s : ByteArray) (w : World) (hx : xs.length ≤ 1000) (hb : Blk w b 9 (xs.map fun x => .string (str x))) (r : Bool) (hr : Hid (xs.contains s.data.toList = r)) :
    Calls Tryd.prog 22 #[.slice (some ⟨b, 0, none⟩) xs.length xs.length, .string s] w fun e w' => e = .returned (.bool r) ∧ w = w' := by
  go_enter Tryd.func22, Tryd.ntmps22
  go_wp2_with fail
  go_loop [5] (fun i => ∃ j : Nat, i = .int .i64 (j : Int) ∧ j ≤ xs.length ∧ Hid ((xs.take j).contains s.data.toList = false)) (fun i => xs.length - (intOf i).toNat)
  case atStart => exact ⟨0, rfl, Nat.zero_le _, hide rfl⟩
  case round =>
    obtain ⟨j, rfl, hj, HF⟩ := hrel
    by_cases hlt : j < xs.length
    · have c0 := hb.cell (j := j) (v := .string (str xs[j])) (by simp [hlt])
      have hi1 : (j : Int) < (xs.length : Int) := by omega
      by_cases he : xs[j] = s.data.toList
      · have e1 : ((str xs[j]).toList == s.toList) = true := by rw [list_eq, list_eq, str_list, he]; simp
        have HE : Hid (xs.contains s.data.toList = true) := hide (by rw [← he]; simp)
        clear he hb
        go_wp2_with fail
        go_ret
        exact ⟨ret_b (HE.out.symm.trans hr.out), rfl⟩
      · have e1 : ((str xs[j]).toList == s.toList) = false := by rw [list_eq, list_eq, str_list]; simpa using he
        have HE : Hid ((xs.take (j + 1)).contains s.data.toList = false) := hide (by
          have := HF.out
          rw [List.take_succ_eq_append_getElem hlt]
          simp only [List.contains_eq_mem, decide_eq_false_iff_not, List.mem_append, List.mem_singleton, not_or] at this ⊢
          exact ⟨this, fun e => he e.symm⟩)
        clear he hb
        go_wp2_with fail
        go_round
        case rel => exact ⟨j + 1, by go_num, by omega, HE⟩
        case measure => simp [intOf]; omega
    · obtain rfl : j = xs.length := by omega
      have HE : Hid (xs.contains s.data.toList = false) := hide (by have := HF.out; rwa [List.take_length] at this)
      clear hb
      go_wp2_with fail
      go_ret
      exact ⟨ret_b (HE.out.symm.trans hr.out), rfl⟩
theorem rWord_any (s : ByteArray) (w : World) : Calls Tryd.prog 12 #[.string s] w (TellsB w (isWord s.data.toList)) := by
  obtain ⟨r, hr⟩ : ∃ r, isWord s.data.toList = r := ⟨_, rfl⟩
  rw [hr]
  have HR : Hid (wordL.contains s.data.toList = r) := hide hr
  clear hr
  go_enter Tryd.func12, Tryd.ntmps12
  go_wp2_with fail
  have hb := Blk.new w 9 (wordL.map fun x => .string (str x))
  refine (among_any w.heap.size wordL s _ (by decide) hb r HR).mono ?_
  rintro e w1 ⟨rfl, rfl⟩
  go_wp2
  go_ret
  exact ⟨rfl, below_new _ _⟩
theorem rMark_any (s : ByteArray) (w : World) : Calls Tryd.prog 14 #[.string s] w (TellsB w (isMark s.data.toList)) := by
  obtain ⟨r, hr⟩ : ∃ r, isMark s.data.toList = r := ⟨_, rfl⟩
  rw [hr]
  have HR : Hid (markL.contains s.data.toList = r) := hide hr
  clear hr
  go_enter Tryd.func14, Tryd.ntmps14
  go_wp2_with fail
  have hb := Blk.new w 9 (markL.map fun x => .string (str x))
  refine (among_any w.heap.size markL s _ (by decide) hb r HR).mono ?_
  rintro e w1 ⟨rfl, rfl⟩
  go_wp2
  go_ret
  exact ⟨rfl, below_new _ _⟩
end Go.Proofs.YtbcgofmhplgfbaaDoor
