/-
  The reference's Lent and Same of codes, and copies of a case.
-/
import Derived.Test.YtmjelcoljmefeaaVRef5
import Derived.Test.YtmjelcoljmefeaaVLaw1
namespace Go.Proofs.Ytmjelcoljmefeaa
open Go.RowKit
set_option maxRecDepth 20000
set_option maxHeartbeats 1000000

theorem ownI_nil (w : World) (base : Nat) : w.ownsRow base 52 2 (.slice none 0 0) 0 (csI []) := World.ownsRow_nil _ _ _ _
def LentI (w : World) (n : Nat) (l : List (Int × Int)) (e : Ending) (w' : World) : Prop :=
  ∃ A c, e = .returned (.slice A n c) ∧ w'.ownsRow w.heap.size 52 2 (.slice A n c) n (csI l) ∧ Below w.heap.size w w'
theorem rLent_any (B : Nat) (A : Option Addr) (n c : Nat) (l : List (Int × Int)) (w : World) (hr : RowI w B A n c l) (hl : n ≤ 1099511627776) :
    Calls Try.prog 10 #[.slice A n c] w (LentI w n l) := by
  go_enter Try.func10, Try.ntmps10
  go_wp2_with (at_builtin; refine wpList_append_ins rfl (.tmp 4) (.tmp 5) rfl w.heap.size _ 0 [] rfl (ownI_nil _ _) B _ _ _ l rfl hr (by omega) w (Below.refl _ _) (Nat.le_refl _) ?_; intro A2 c2 w2 ho2 hb2 hg2; simp only [Nat.zero_add, List.nil_append] at ho2)
  go_ret
  exact ⟨A2, c2, by simp, ho2, hb2⟩
theorem rSame_any (B B' : Nat) (A A' : Option Addr) (n n' c c' : Nat) (l : List (Int × Int)) (w : World) (hr : RowI w B A n c l) (hr' : RowI w B' A' n' c' l) :
    Calls Try.prog 15 #[.slice A n c, .slice A' n' c'] w (Drew true w) := by
  obtain rfl : n' = n := by have h1 := hr.len; have h2 := hr'.len; omega
  have hn := hr.len
  subst hn
  have hm := hr.max
  have hcap := hr.cap
  unfold maxLen at hm
  go_enter Try.func15, Try.ntmps15
  go_wp2
  go_loopw [5] (fun i wr => ∃ j k : Nat, j ≤ l.length ∧ i = .int .i64 (j : Int) ∧ wr = w.drewN k) (fun i _ => l.length - (intOf i).toNat)
  case atStart => exact ⟨0, 0, Nat.zero_le _, rfl, rfl⟩
  case round =>
    obtain ⟨j, k, hj, rfl, rfl⟩ := hrel
    by_cases hlt : j < l.length
    · obtain ⟨b, o, y, x, rfl, _, hu, hc0, hc1, _⟩ := hr.get hlt
      obtain ⟨b', o', y', x', rfl, _, hu', hc0', hc1', _⟩ := hr'.get hlt
      rw [hu] at hu'
      injection hu' with hu'
      injection hu' with h1 h2
      subst h1
      subst h2
      have hi1 : (j : Int) < (l.length : Int) := by omega
      clear hu hr hr'
      go_wp2
      go_quiet (fail)
      go_wp2
      go_roundw
      case rel => exact ⟨j + 1, k + nq, by omega, by go_num, by first | rfl | exact World.drewN_drewN⟩
      case measure => simp [intOf]; omega
    · obtain rfl : j = l.length := by omega
      go_wp2
      go_ret
      exact ⟨k, rfl, rfl⟩
/-- The copies of a case. -/
structure TX (A1 A2 A3 A4 : Option Addr) (c1 c2 c3 c4 : Nat) (K : CD) (B : Nat) (l : List (Int × Int)) (old first ins : List Int) (w : World) : Prop where
  cl : RowI w B A1 K.n c1 l
  ol : Row w B A2 K.no c2 (c32 old)
  fl : Row w B A3 K.nf c3 (c32 first)
  il : Row w B A4 K.ni c4 (c32 ins)
theorem TX.keep {A1 A2 A3 A4 : Option Addr} {c1 c2 c3 c4 : Nat} {K : CD} {B B' : Nat} {l : List (Int × Int)} {old first ins : List Int} {w w' : World} (t : TX A1 A2 A3 A4 c1 c2 c3 c4 K B l old first ins w) (hb : Below B' w w') (hB : B ≤ B') : TX A1 A2 A3 A4 c1 c2 c3 c4 K B l old first ins w' :=
  ⟨t.cl.keep hb hB, t.ol.keep hb hB, t.fl.keep hb hB, t.il.keep hb hB⟩
theorem runQ_is {w w' : World} {e : Ending} {V : Int × List Int × List Int × Nat} {er us : Int} {ce ou : List Int} (h : RunQ V w e w') (h0 : V.1 = er) (h1 : V.2.1 = ce) (h2 : V.2.2.1 = ou) (h3 : (V.2.2.2 : Int) = us) (n1 n2 : Nat) (l1 : ce.length = n1) (l2 : ou.length = n2) :
    ∃ A c A' c', e = .returned (.tuple #[.agg #[.slice A n1 c, .slice A' n2 c', .int .i64 us], .int .i64 er]) ∧
    Row w' w'.heap.size A n1 c (c32 ce) ∧ Row w' w'.heap.size A' n2 c' (c32 ou) ∧ Below w.heap.size w w' := by
  subst h0; subst h1; subst h2; subst h3; subst l1; subst l2; exact h
end Go.Proofs.Ytmjelcoljmefeaa
