/-
  Contracts of package octet's own helpers: isWidth, grown, lay, number.
-/
import Derived.Test.YtmjelcoljmefeaaChecked
import Derived.Test.YtmjelcoljmefeaaOMem
import Derived.Laws.CopyOwn
import Derived.LoopTactic
namespace Go.Proofs.Ytmjelcoljmefeaa
open Go.RowKit
set_option maxHeartbeats 400000

theorem info8 : (Try.prog.info? 5).map (fun i => (i.zero, i.size, i.bytes)) = some (some (.int .u8 0), 1, 1) := by kernel_rfl
theorem size8 : (Try.prog.info? 5).map (·.size) = some 1 := by kernel_rfl

theorem ret_bool {a b : Bool} (h : a = b) : Ending.returned (.bool a) = .returned (.bool b) := by rw [h]
theorem ret_int {k : IntKind} {a b : Int} (h : a = b) : Ending.returned (.int k a) = .returned (.int k b) := by rw [h]
theorem shr_byte (v k : Nat) : (v : Int) / 2 ^ (8 * k) % 256 = ((byt (v / 256 ^ k)).toNat : Int) := by
  rw [byt_toNat, p256, Int.natCast_emod, Int.natCast_ediv, Int.natCast_pow]; rfl
theorem one_u8 (n : Int) : ∀ u ∈ [Value.int .u8 n], u.oneCell' = true := by
  intro u hu; simp at hu; subst hu; rfl
theorem cs8_snoc (l : List UInt8) (c : UInt8) : cs8 (l ++ [c]) = cs8 l ++ [.int .u8 (c.toNat : Int)] := by simp [cs8]
theorem cs8_lay (l : List UInt8) (j v : Nat) : cs8 (l ++ leB (j + 1) v) = cs8 (l ++ leB j v) ++ [.int .u8 ((v : Int) / 2 ^ (8 * j) % 256)] := by
  rw [leB_succ, ← List.append_assoc, cs8_snoc, shr_byte]

def LayPost (base : Nat) (w : World) (r : List UInt8) (e : Ending) (w' : World) : Prop :=
  ∃ A n c, e = .returned (.slice A n c) ∧ w'.ownsRow base 5 1 (.slice A n c) n (cs8 r) ∧ Below base w w'
theorem own8_len {w : World} {base : Nat} {e : TypeId} {v : Value} {n : Nat} {l : List UInt8} (h : w.ownsRow base e 1 v n (cs8 l)) : l.length = n := by
  have := h.1; rwa [cs8_len, Nat.mul_one] at this

theorem or_u64 (a b k : Nat) (ha : a < 2 ^ (8 * k)) (hb : b < 256) (hk : k ≤ 7) : bits .or .u64 (a : Int) ((b : Int) * 2 ^ (8 * k)) = ((a + 256 ^ k * b : Nat) : Int) := by
  have h1 : (2 : Nat) ^ (8 * k) ≤ 2 ^ 56 := Nat.pow_le_pow_right (by omega) (by omega)
  have h3 : b * 2 ^ (8 * k) ≤ 255 * 2 ^ 56 := Nat.mul_le_mul (by omega) h1
  have e : (b : Int) * 2 ^ (8 * k) = ((b * 2 ^ (8 * k) : Nat) : Int) := by rw [Int.natCast_mul, Int.natCast_pow]; rfl
  rw [e, u64_or_nat _ _ (by omega) (by omega), Nat.or_comm, nat_join (8 * k) _ _ (Nat.mul_mod_left _ _) ha, p256, Nat.mul_comm, Nat.add_comm]
theorem num_step (l : List UInt8) (a j k : Nat) (hj : j < k) (hk : k ≤ 8) (h : a + k ≤ l.length) (hx : a + j < l.length) :
    bits .or .u64 (leN ((l.drop a).take j) : Int) (IntKind.u64.wrap ((l[a + j].toNat : Int) * 2 ^ (8 * j))) = (leN ((l.drop a).take (j + 1)) : Int) := by
  have h1 := leN_lt ((l.drop a).take j)
  have hl : ((l.drop a).take j).length = j := by simp; omega
  rw [hl, p256] at h1
  have hc := l[a + j].toNat_lt
  have h2 : (2 : Nat) ^ (8 * j) ≤ 2 ^ 56 := Nat.pow_le_pow_right (by omega) (by omega)
  have h3 : l[a + j].toNat * 2 ^ (8 * j) ≤ 255 * 2 ^ 56 := Nat.mul_le_mul (by omega) h2
  have e : (l[a + j].toNat : Int) * 2 ^ (8 * j) = ((l[a + j].toNat * 2 ^ (8 * j) : Nat) : Int) := by rw [Int.natCast_mul, Int.natCast_pow]; rfl
  have hw : IntKind.u64.wrap ((l[a + j].toNat : Int) * 2 ^ (8 * j)) = (l[a + j].toNat : Int) * 2 ^ (8 * j) := by
    rw [e]; simp only [IntKind.wrap, IntKind.bits, IntKind.signed]; simp; omega
  rw [hw, or_u64 _ _ j h1 hc (by omega), take_step l a j hx, leN_app, hl, leN_one]
theorem made (k : Nat) (z : Value) : madeCells #[z] k = (List.replicate k z).toArray := by
  apply Array.toList_inj.1; rw [toList_madeCells_one]
theorem own_spliced {w : World} {base g m : Nat} {l : List UInt8} (hb : base ≤ g) (hm : l.length + m ≤ maxLen)
    (hg : w.heap[g]? = some (.cells (splice (List.replicate (l.length + m) (.int .u8 0)) 0 (cs8 l)).toArray 5 (0, 0))) :
    w.ownsRow base 5 1 (.slice (some ⟨g, 0, none⟩) l.length (l.length + m)) l.length (cs8 l) := by
  refine ⟨by rw [cs8_len, Nat.mul_one], .inr ⟨g, _, _, rfl, hb, hg, Nat.le_add_right _ _, hm, ?_, ?_⟩⟩
  · rw [List.size_toArray, length_splice _ _ _ (by simp [cs8_len]), List.length_replicate, Nat.mul_one]
  · simp [splice, cs8_len]
end Go.Proofs.Ytmjelcoljmefeaa
