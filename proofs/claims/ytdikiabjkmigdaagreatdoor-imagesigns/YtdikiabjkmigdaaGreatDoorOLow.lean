/-
  Contracts of package octet's own helpers: isWidth, grown, lay, number.
-/
import Derived.Test.YtdikiabjkmigdaaGreatDoorChecked
import Derived.Test.YtdikiabjkmigdaaGreatDoorOMem
import Derived.Laws.CopyOwn
import Derived.LoopTactic
namespace Go.Proofs.YtdikiabjkmigdaaGreatDoor
set_option maxRecDepth 20000
open Go.RowKit
set_option maxHeartbeats 400000

theorem info8 : (Tryz.prog.info? 5).map (fun i => (i.zero, i.size, i.bytes)) = some (some (.int .u8 0), 1, 1) := by kernel_rfl
theorem size8 : (Tryz.prog.info? 5).map (·.size) = some 1 := by kernel_rfl

theorem ret_bool {a b : Bool} (h : a = b) : Ending.returned (.bool a) = .returned (.bool b) := by rw [h]
theorem ret_int {k : IntKind} {a b : Int} (h : a = b) : Ending.returned (.int k a) = .returned (.int k b) := by rw [h]
theorem isWidth_any (width : Int) (w : World) : Calls Tryz.prog 67 #[.int .i64 width] w fun e w' => e = .returned (.bool (widB width)) ∧ w = w' := by
  by_cases h1 : 1 ≤ width
  · by_cases h2 : width ≤ 8
    · have H : Hid (widB width = true) := decide_eq_true ⟨h1, h2⟩
      go_enter Tryz.func67, Tryz.ntmps67
      go_wp2
      go_ret
      exact ⟨ret_bool H.out.symm, rfl⟩
    · have H : Hid (widB width = false) := decide_eq_false (fun h => h2 h.2)
      have h3 : decide (width ≤ 8) = false := by simpa using h2
      go_enter Tryz.func67, Tryz.ntmps67
      go_wp2
      go_ret
      exact ⟨ret_bool H.out.symm, rfl⟩
  · have H : Hid (widB width = false) := decide_eq_false (fun h => h1 h.1)
    have h3 : decide (1 ≤ width) = false := by simpa using h1
    go_enter Tryz.func67, Tryz.ntmps67
    go_wp2
    go_ret
    exact ⟨ret_bool H.out.symm, rfl⟩

theorem shr_byte (v k : Nat) : (v : Int) / 2 ^ (8 * k) % 256 = ((byt (v / 256 ^ k)).toNat : Int) := by
  rw [byt_toNat, p256, Int.natCast_emod, Int.natCast_ediv, Int.natCast_pow]; rfl
theorem one_u8 (n : Int) : ∀ u ∈ [Value.int .u8 n], u.oneCell' = true := by
  intro u hu; simp at hu; subst hu; rfl
theorem cs8_snoc (l : List UInt8) (c : UInt8) : cs8 (l ++ [c]) = cs8 l ++ [.int .u8 (c.toNat : Int)] := by simp [cs8]
theorem cs8_lay (l : List UInt8) (j v : Nat) : cs8 (l ++ leB (j + 1) v) = cs8 (l ++ leB j v) ++ [.int .u8 ((v : Int) / 2 ^ (8 * j) % 256)] := by
  rw [leB_succ, ← List.append_assoc, cs8_snoc, shr_byte]

def LayPost (base : Nat) (w : World) (r : List UInt8) (e : Ending) (w' : World) : Prop :=
  ∃ A n c, e = .returned (.slice A n c) ∧ w'.ownsRow base 5 1 (.slice A n c) n (cs8 r) ∧ Below base w w'
theorem own8_len {w : World} {base : Nat} {e : TypeId} {v : Value} {n : Nat} {l : List UInt8} (h : w.ownsRow base e 1 v n (cs8 l)) : l.length = n := by
  have := h.1; rwa [cs8_len, Nat.mul_one] at this

theorem lay_any (A : Option Addr) (n c : Nat) (l : List UInt8) (k v base : Nat) (w : World) (hown : w.ownsRow base 5 1 (.slice A n c) n (cs8 l)) (hbase : base ≤ w.heap.size)
    (hk : k ≤ 8) (hl : n ≤ 1099511627776) :
    Calls Tryz.prog 68 #[.slice A n c, .int .i64 (k : Int), .int .u64 (v : Int)] w (LayPost base w (l ++ leB k v)) := by
  obtain ⟨i0, hi, hz0, hz1, hz2⟩ := info_parts info8
  go_enter Tryz.func68, Tryz.ntmps68
  go_wp2
  go_loopw [0, 9] (fun s i wr => ∃ (j : Nat) (A' : Option Addr) (c' : Nat), j ≤ k ∧ i = .int .i64 (j : Int) ∧ s = .slice A' (n + j) c' ∧ wr.ownsRow base 5 1 (.slice A' (n + j) c') (n + j) (cs8 (l ++ leB j v)) ∧ Below base w wr) (fun _ i _ => k - (intOf i).toNat)
  case atStart => exact ⟨0, A, c, Nat.zero_le _, rfl, rfl, by simpa [leB_zero] using hown, Below.refl _ _⟩
  case round =>
    obtain ⟨j, A', c', hj, rfl, rfl, ho, hb⟩ := hrel
    have hbs := hb.size
    by_cases hlt : j < k
    · have HE := hide (cs8_lay l j v)
      go_wp2_with (at_builtin; refine wpList_append_row rfl (.tmp 12) (.tmp 18) 29 rfl base 5 i0 _ 1 Tryz.underlying29 hi hz0 hz1 hz2 rfl _ _ _ rfl (ho.alloc _) _ _ _ _ _ rfl (Row.one _ _ _) (one_u8 _) (by unfold maxLen; omega) (by omega) w (hb.alloc (by omega) _) hbase ?_; intro A2 c2 w2 ho2 hb2 hg2)
      go_roundw
      case rel => exact ⟨j + 1, A2, c2, by omega, by go_num, rfl, by rw [HE.out]; exact ho2, hb2⟩
      case measure => simp [intOf]; omega
    · obtain rfl : j = k := by omega
      go_wp2
      go_ret
      exact ⟨A', _, c', rfl, ho, hb⟩

theorem or_u64 (a b k : Nat) (ha : a < 2 ^ (8 * k)) (hb : b < 256) (hk : k ≤ 7) : bits .or .u64 (a : Int) ((b : Int) * 2 ^ (8 * k)) = ((a + 256 ^ k * b : Nat) : Int) := by
  have h1 : (2 : Nat) ^ (8 * k) ≤ 2 ^ 56 := Nat.pow_le_pow_right (by omega) (by omega)
  have h3 : b * 2 ^ (8 * k) ≤ 255 * 2 ^ 56 := Nat.mul_le_mul (by omega) h1
  have e : (b : Int) * 2 ^ (8 * k) = ((b * 2 ^ (8 * k) : Nat) : Int) := by rw [Int.natCast_mul, Int.natCast_pow]; rfl
  rw [e, u64_or_nat _ _ (by omega) (by omega), Nat.or_comm, nat_join (8 * k) _ _ (Nat.mul_mod_left _ _) ha, p256, Nat.mul_comm, Nat.add_comm]
theorem num_step (l : List UInt8) (a j k : Nat) (hj : j < k) (hk : k ≤ 8) (h : a + k ≤ l.length) (hx : a + j < l.length) :
    bits .or .u64 (leN ((l.drop a).take j) : Int) (IntKind.u64.wrap ((l[a + j].toNat : Int) * 2 ^ (8 * j))) = (leN ((l.drop a).take (j + 1)) : Int) := by
  have h1 := leN_lt ((l.drop a).take j)
  have hl : ((l.drop a).take j).length = j := by simp; omega
  rw [hl, p256] at h1
  have hc := l[a + j].toNat_lt
  have h2 : (2 : Nat) ^ (8 * j) ≤ 2 ^ 56 := Nat.pow_le_pow_right (by omega) (by omega)
  have h3 : l[a + j].toNat * 2 ^ (8 * j) ≤ 255 * 2 ^ 56 := Nat.mul_le_mul (by omega) h2
  have e : (l[a + j].toNat : Int) * 2 ^ (8 * j) = ((l[a + j].toNat * 2 ^ (8 * j) : Nat) : Int) := by rw [Int.natCast_mul, Int.natCast_pow]; rfl
  have hw : IntKind.u64.wrap ((l[a + j].toNat : Int) * 2 ^ (8 * j)) = (l[a + j].toNat : Int) * 2 ^ (8 * j) := by
    rw [e]; simp only [IntKind.wrap, IntKind.bits, IntKind.signed]; simp; omega
  rw [hw, or_u64 _ _ j h1 hc (by omega), take_step l a j hx, leN_app, hl, leN_one]
theorem number_any (B : Nat) (A : Option Addr) (n c : Nat) (l : List UInt8) (a k : Nat) (w : World) (hr : Row w B A n c (cs8 l)) (hk : k ≤ 8) (h : a + k ≤ n) :
    Calls Tryz.prog 74 #[.slice A n c, .int .i64 (a : Int), .int .i64 (k : Int)] w fun e w' => e = .returned (.int .u64 (leN ((l.drop a).take k) : Int)) ∧ w = w' := by
  have hn := hr.len
  rw [cs8_len] at hn
  subst hn
  have hm := hr.max
  have hcap := hr.cap
  unfold maxLen at hm
  go_enter Tryz.func74, Tryz.ntmps74
  go_wp2
  go_loop [7, 10] (fun s i => ∃ j : Nat, j ≤ k ∧ i = .int .i64 (j : Int) ∧ s = .int .u64 (leN ((l.drop a).take j) : Int)) (fun _ i => k - (intOf i).toNat)
  case atStart => exact ⟨0, Nat.zero_le _, rfl, by simp [leN]⟩
  case round =>
    obtain ⟨j, hj, rfl, rfl⟩ := hrel
    by_cases hlt : j < k
    · have hx : a + j < l.length := by omega
      obtain ⟨b, o, u, rfl, _, hu, hcell⟩ := hr.get hx
      rw [cs8_at hx] at hu
      obtain rfl := Option.some.inj hu
      have HE := hide (num_step l a j k hlt hk h hx)
      have hc2 := l[a + j].toNat_lt
      clear hr hu
      go_wp2
      go_round
      case rel => exact ⟨j + 1, by omega, by go_num, by rw [HE.out]⟩
      case measure => simp [intOf]; omega
    · obtain rfl : j = k := by omega
      go_wp2
      go_ret
      exact ⟨rfl, rfl⟩
theorem made (k : Nat) (z : Value) : madeCells #[z] k = (List.replicate k z).toArray := by
  apply Array.toList_inj.1; rw [toList_madeCells_one]
theorem make8 (n m : Nat) (h : n + m ≤ 2199023255552) (W : World) :
    (Instr.makeSlice 29 (.int .i64 (n : Int)) (.int .i64 ((n : Int) + (m : Int)))).run Tryz.prog W = .ok (.slice (some ⟨W.heap.size, 0, none⟩) n (n + m)) (W.alloc (.cells (List.replicate (n + m) (.int .u8 0)).toArray 5)) := by
  obtain ⟨i0, hi, hz0, hz1, hz2⟩ := info_parts info8
  rw [run_make W 29 5 i0 _ Tryz.underlying29 hi hz0 .i64 .i64 (n : Int) ((n : Int) + (m : Int)) (by omega) (by omega) (by rw [hz2]; omega) (by omega), hz1]
  rw [show ((n : Int) + (m : Int)).toNat = n + m by omega, show (n : Int).toNat = n by omega, Nat.mul_one]
  rw [show (Value.int IntKind.u8 0).cells = #[Value.int IntKind.u8 0] from rfl, made]
theorem own_spliced {w : World} {base g m : Nat} {l : List UInt8} (hb : base ≤ g) (hm : l.length + m ≤ maxLen)
    (hg : w.heap[g]? = some (.cells (splice (List.replicate (l.length + m) (.int .u8 0)) 0 (cs8 l)).toArray 5 (0, 0))) :
    w.ownsRow base 5 1 (.slice (some ⟨g, 0, none⟩) l.length (l.length + m)) l.length (cs8 l) := by
  refine ⟨by rw [cs8_len, Nat.mul_one], .inr ⟨g, _, _, rfl, hb, hg, Nat.le_add_right _ _, hm, ?_, ?_⟩⟩
  · rw [List.size_toArray, length_splice _ _ _ (by simp [cs8_len]), List.length_replicate, Nat.mul_one]
  · simp [splice, cs8_len]
theorem grown_any (B : Nat) (A : Option Addr) (n c : Nat) (l : List UInt8) (m : Nat) (w : World) (hr : Row w B A n c (cs8 l)) (hB : B ≤ w.heap.size) (hl : n + m ≤ 2199023255552) :
    Calls Tryz.prog 69 #[.slice A n c, .int .i64 (m : Int)] w (LayPost w.heap.size w l) := by
  have hn := hr.len
  rw [cs8_len] at hn
  subst hn
  have hmk := make8 l.length m hl w
  go_enter Tryz.func69, Tryz.ntmps69
  go_wp2_with (with_reducible refine wpList_copy_splice (o := ⟨some 15, _, _, _, _, _⟩) rfl (.tmp 13) (.tmp 14) 29 29 rfl 5 Tryz.underlying29 size8 _ _ _ _ _ _ rfl rfl w.heap.size 0 _ 5 (heap_alloc_new _ _) (cs8 l) ?k1 ?k2 ?k3 (cs8_one l) w.heap.size w ((Below.refl _ _).alloc (Nat.le_refl _) _) (Nat.le_refl _) ?_)
  case k1 => simp [cs8_len]
  case k2 =>
    intro h0
    rw [cs8_len] at h0
    obtain ⟨b, o, rfl, hb, hc⟩ := hr.cells h0
    refine ⟨_, rfl, fun j v hv => ?_⟩
    rw [Addr.add_lit, World.cell?_alloc_lt _ _ _ (by show b < _; omega)]
    exact hc j v hv
  case k3 => simp [cs8_len]
  intro w2 hg2 hb2
  go_wp2
  go_ret
  exact ⟨_, _, _, rfl, own_spliced (Nat.le_refl _) (by unfold maxLen; omega) hg2.out, hb2⟩
end Go.Proofs.YtdikiabjkmigdaaGreatDoor
