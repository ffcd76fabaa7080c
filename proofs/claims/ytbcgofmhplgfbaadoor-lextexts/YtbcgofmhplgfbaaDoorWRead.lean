/-
  Contracts of package wrap's Read and of the document's own Read: both give the number whose numeral the text is, or none.
-/
import Derived.Test.YtbcgofmhplgfbaaDoorWTextM
import Derived.Test.YtbcgofmhplgfbaaDoorShelfP
import Derived.Shelf.Strconv.ErrVarParseInt
import Derived.Lib.AtoiErrMem
import Derived.Lib.Hide
namespace Go.Proofs.YtbcgofmhplgfbaaDoor
open Go.RowKit
set_option maxHeartbeats 400000

theorem var_keep {w w' : World} {n : String} {cs : Array Value} (h : w.var? Tryd.prog n = some cs) (hb : Below w.heap.size w w') : w'.var? Tryd.prog n = some cs := by
  unfold World.var? at h ⊢
  cases hg : Tryd.prog.globalNamed n with
  | none => rw [hg] at h; cases h
  | some g =>
    rw [hg] at h
    simp only [Option.bind_some] at h ⊢
    have hlt : g < w.heap.size := by
      apply Nat.lt_of_not_le
      intro hc
      rw [Array.getElem?_eq_none hc] at h
      cases h
    rw [hb.block g hlt]
    exact h
/-- What the library's variables hold: the table of powers, and the two errors. -/
structure Env (w : World) : Prop where
  tab : Tab w
  synt : ∃ tp p, w.var? Tryd.prog "strconv.ErrSyntax" = some #[.iface tp p]
  rang : ∃ tp p, w.var? Tryd.prog "strconv.ErrRange" = some #[.iface tp p]
theorem tab_keep {w w' : World} (h : Tab w) (hb : Below w.heap.size w w') : Tab w' := var_keep h hb
theorem Env.keep {w w' : World} (h : Env w) (hb : Below w.heap.size w w') : Env w' := by
  obtain ⟨h1, ⟨tp, p, h2⟩, ⟨tq, q, h3⟩⟩ := h
  exact ⟨tab_keep h1 hb, ⟨tp, p, var_keep h2 hb⟩, ⟨tq, q, var_keep h3 hb⟩⟩

/-- ParseInt gives the number. -/
theorem parse_ok (s : ByteArray) (hs : s.size ≤ 100000) (v : Int) (h : Lib.parseIntB 32 s.data.toList = .ok v) (w : World) :
    Calls Tryd.prog 44 #[.string s, .int .i64 10, .int .i64 32] w fun e w' => e = .returned (.tuple #[.int .i64 v, .nilIface]) ∧ Below w.heap.size w w' := by
  refine (Tryd.strconv_ParseInt_10_at32_ok s (by omega) v h w).mono fun e w' ⟨he, hw⟩ => ⟨he, ?_⟩
  rcases hw with rfl | ⟨t, rfl⟩
  · exact Below.refl _ _
  · exact Lib.bytesWorld_below _ _ _
/-- ParseInt refuses: a number, and an error that is not nil. -/
def Refused (w : World) (e : Ending) (w' : World) : Prop := ∃ (n : Int) (N : Nat), e = .returned (.tuple #[.int .i64 n, .iface 69 (.pointer (some ⟨N, 0, none⟩))]) ∧ Below w.heap.size w w'
theorem parse_bad (s : ByteArray) (hs : s.size ≤ 100000) (h : ∀ v, Lib.parseIntB 32 s.data.toList ≠ .ok v) (w : World) (he : Env w) :
    Calls Tryd.prog 44 #[.string s, .int .i64 10, .int .i64 32] w (Refused w) := by
  obtain ⟨_, ⟨tp, p, h2⟩, ⟨tq, q, h3⟩⟩ := he
  rcases hx : Lib.parseIntB 32 s.data.toList with v | _ | _
  · exact absurd hx (h v)
  · exact (Any.strconv_ParseInt_10_at32_syntax_var Tryd.laysC174 s (by omega) hx tp p w h2).mono fun e w' ⟨N, a, _, _, b⟩ => ⟨_, N, a, b⟩
  · exact (Any.strconv_ParseInt_10_at32_range_var Tryd.laysC174 s (by omega) hx tq q w h3).mono fun e w' ⟨N, a, _, _, b⟩ => ⟨_, N, a, b⟩

/-- The text is no number's numeral. -/
def NoNum (s : ByteArray) : Prop := ∀ a : Int, -2147483648 ≤ a → a ≤ 2147483647 → (⟨(Lib.itoa a).toArray⟩ : ByteArray) ≠ s

theorem ne_bytes {l : List UInt8} {s : ByteArray} (h : (⟨l.toArray⟩ : ByteArray) ≠ s) : (l == s.toList) = false := by
  rw [beq_eq_false_iff_ne]
  intro e
  apply h
  rw [ByteArray.toList_eq] at e
  rw [e]
theorem size_itoa {a : Int} (h1 : -2147483648 ≤ a) (h2 : a ≤ 2147483647) : (⟨(Lib.itoa a).toArray⟩ : ByteArray).size ≤ 11 := by
  show (Lib.itoa a).toArray.size ≤ 11
  simpa using itoa_length h1 h2
theorem read_yes (a : Int) (h1 : -2147483648 ≤ a) (h2 : a ≤ 2147483647) (w : World) (ht : Tab w) :
    Calls Tryd.prog 43 #[.string ⟨(Lib.itoa a).toArray⟩] w fun e w' => e = .returned (.tuple #[.int .i32 a, .bool true]) ∧ Below w.heap.size w w' := by
  have hz := size_itoa h1 h2
  have HP : Hid (Lib.parseIntB 32 (⟨(Lib.itoa a).toArray⟩ : ByteArray).data.toList = .ok a) := by simpa [Hid] using parse_itoa h1 h2
  go_enter Tryd.func43, Tryd.ntmps43
  go_wp2_with fail
  refine (parse_ok _ (by omega) a HP.out w).mono ?_
  rintro e w1 ⟨rfl, hb1⟩
  have ht1 := tab_keep ht hb1
  go_wp2_with fail
  refine (digits_any a h1 h2 w1 ht1).mono ?_
  rintro e w2 ⟨rfl, hb2⟩
  have hb := hb1.trans (hb2.mono hb1.size)
  go_wp2
  go_ret2
  exact ⟨rfl, hb⟩
theorem read_no (s : ByteArray) (hs : s.size ≤ 100000) (hn : NoNum s) (w : World) (he : Env w) :
    Calls Tryd.prog 43 #[.string s] w fun e w' => e = .returned (.tuple #[.int .i32 0, .bool false]) ∧ Below w.heap.size w w' := by
  by_cases hok : ∃ v, Lib.parseIntB 32 s.data.toList = .ok v
  · obtain ⟨v, hv⟩ := hok
    have hbd := Lib.parseIntB_bounds hv
    have v1 : -2147483648 ≤ v := by have := hbd.1; simp at this; omega
    have v2 : v ≤ 2147483647 := by have := hbd.2; simp at this; omega
    have hne := hn v v1 v2
    have HV : Hid _ := hv
    have ht := he.tab
    have hne2 := ne_bytes hne
    clear hbd hv hn he hne
    go_enter Tryd.func43, Tryd.ntmps43
    go_wp2_with fail
    refine (parse_ok s hs v HV.out w).mono ?_
    rintro e w1 ⟨rfl, hb1⟩
    have ht1 := tab_keep ht hb1
    go_wp2_with fail
    refine (digits_any v v1 v2 w1 ht1).mono ?_
    rintro e w2 ⟨rfl, hb2⟩
    have hb := hb1.trans (hb2.mono hb1.size)
    go_wp2
    go_ret2
    exact ⟨rfl, hb⟩
  · have HB := Lib.hid (parse_bad s hs (fun v hv => hok ⟨v, hv⟩) w he)
    clear hok hn he
    go_enter Tryd.func43, Tryd.ntmps43
    go_wp2_with fail
    refine HB.out.mono ?_
    rintro e w1 ⟨n, N, rfl, hb1⟩
    clear HB
    go_wp2
    go_ret2
    exact ⟨rfl, hb1⟩
end Go.Proofs.YtbcgofmhplgfbaaDoor
