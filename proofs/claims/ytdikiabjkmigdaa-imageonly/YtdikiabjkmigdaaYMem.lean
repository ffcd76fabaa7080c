/-
  Memory of an image: its eight numbers, and three slices that lie below; results that are an image, or bytes and a fault.
-/
import Derived.Test.YtdikiabjkmigdaaYMath
import Derived.Test.YtdikiabjkmigdaaUMem
namespace Go.Proofs.Ytdikiabjkmigdaa
set_option maxRecDepth 20000
open Go.RowKit
set_option maxHeartbeats 400000

/-- The cells of 32-bit numbers. -/
def c32 (l : List Int) : List Value := l.map (Value.int .i32)
theorem c32_len (l : List Int) : (c32 l).length = l.length := by simp [c32]
theorem c32_app (l m : List Int) : c32 (l ++ m) = c32 l ++ c32 m := by simp [c32]
theorem c32_one (l : List Int) : ∀ u ∈ c32 l, u.oneCell' = true := by
  intro u hu; obtain ⟨_, _, rfl⟩ := List.mem_map.1 hu; rfl
theorem c32_at {l : List Int} {j : Nat} (h : j < l.length) : (c32 l)[j]? = some (.int .i32 (gd l j)) := by simp [c32, gd_lt h, h]
theorem infoN : (Try.prog.info? 21).map (fun i => (i.zero, i.size, i.bytes)) = some (some (.int .i32 0), 1, 4) := by kernel_rfl
theorem sizeN : (Try.prog.info? 21).map (·.size) = some 1 := by kernel_rfl
/-- An image and where its lists lie. -/
structure IV where
  v : Int
  f : Int
  e : Int
  s : Int
  o : Int
  n : Int
  i : Int
  u : Int
  x : Int
  y : Int
  fs : List Int
  st : List (Int × Int)
  mv : List (Int × Int)
  fA : Option Addr
  fn : Nat
  fc : Nat
  sA : Option Addr
  sn : Nat
  sc : Nat
  mA : Option Addr
  mn : Nat
  mc : Nat
def IV.m (K : IV) : Im := ⟨K.v, K.f, K.e, ⟨K.s, K.o, K.n, K.i, K.u⟩, K.fs, K.st, K.mv, K.x, K.y⟩
/-- Its lists lie below B, and its numbers are of their types. -/
structure Held (w : World) (B : Nat) (K : IV) : Prop where
  fs : Row w B K.fA K.fn K.fc (c32 K.fs)
  st : RowI w B K.sA K.sn K.sc K.st
  mv : RowI w B K.mA K.mn K.mc K.mv
  wf : Wf K.m
theorem Held.keep {w w' : World} {B B' : Nat} {K : IV} (h : Held w B K) (hb : Below B' w w') (hB : B ≤ B') : Held w' B K := ⟨h.fs.keep hb hB, h.st.keep hb hB, h.mv.keep hb hB, h.wf⟩
theorem Held.more {w : World} {B B' : Nat} {K : IV} (h : Held w B K) (hB : B ≤ B') : Held w B' K := ⟨h.fs.more hB, h.st.more hB, h.mv.more hB, h.wf⟩
theorem row_len {w : World} {B n c : Nat} {A : Option Addr} {l : List Int} (h : Row w B A n c (c32 l)) : l.length = n := by have := h.len; rwa [c32_len] at this
theorem RowI.count {w : World} {B n c : Nat} {A : Option Addr} {l : List (Int × Int)} (h : RowI w B A n c l) : l.length = n := h.len
/-- A truth, and what was there is as it was. -/
def TellsB (w : World) (b : Bool) (e : Ending) (w' : World) : Prop := e = .returned (.bool b) ∧ Below w.heap.size w w'
theorem ret_bool2 {a b : Bool} (h : a = b) : Ending.returned (.bool a) = .returned (.bool b) := by rw [h]
theorem sizeM : (Try.prog.info? 28).map (·.size) = some 13 := by kernel_rfl
theorem sizeF : (Try.prog.info? 24).map (·.size) = some 5 := by kernel_rfl
theorem results_cell1 {fn : Func} {p : Tmp} {ty : TypeId} (h : fn.results = #[.cell p ty]) (tmps : Array Value) (P : Program) (w : World) :
    (results fn tmps).run P w = ((asAddr (tmps.getD p undef)).run P w).andThen fun a w₁ => (loadVar ty a).run P w₁ := by
  simp only [results, h]
  simp [Sem.run_bind, Result.andThen]
/-- A frame as a result. -/
theorem ret_frame {fn : Func} {R : Ending → World → Prop} {a : Act} {w : World} {p : Tmp} {g : Nat} {s1 s2 s3 s4 s5 : Int} (h : fn.results = #[.cell p 24])
    (hp : a.tmps.getD p undef = .pointer (some ⟨g, 0, none⟩)) (hb : Blk w g 24 [.int .i64 s1, .int .i64 s2, .int .i64 s3, .int .i64 s4, .int .i64 s5]) (hd : a.defers = [])
    (hR : R (.returned (.agg #[.int .i64 s1, .int .i64 s2, .int .i64 s3, .int .i64 s4, .int .i64 s5])) w) : bodyPost Try.prog fn R .ret a w := by
  refine bodyPost_ret_by (v := .agg #[.int .i64 s1, .int .i64 s2, .int .i64 s3, .int .i64 s4, .int .i64 s5]) ?_ hd hR
  have := run_loadVar_row (P := Try.prog) w g _ 24 #[.int .i64 s1, .int .i64 s2, .int .i64 s3, .int .i64 s4, .int .i64 s5] (0, 0) _ hb Try.underlying24 rfl (by exact sizeF)
  rw [results_cell1 h]
  simp only [hp, asAddr]
  simp [this, Result.andThen]
/-- An image as a result of its own. -/
theorem ret_im1 {fn : Func} {R : Ending → World → Prop} {a : Act} {w : World} {p : Tmp} {g : Nat} {c0 c1 c2 c3 c4 c5 c6 c7 c8 c9 c10 c11 c12 : Value} (h : fn.results = #[.cell p 28])
    (hp : a.tmps.getD p undef = .pointer (some ⟨g, 0, none⟩)) (hb : Blk w g 28 [c0, c1, c2, c3, c4, c5, c6, c7, c8, c9, c10, c11, c12]) (hd : a.defers = [])
    (hR : R (.returned (.agg #[c0, c1, c2, c3, c4, c5, c6, c7, c8, c9, c10, c11, c12])) w) : bodyPost Try.prog fn R .ret a w := by
  refine bodyPost_ret_by (v := .agg #[c0, c1, c2, c3, c4, c5, c6, c7, c8, c9, c10, c11, c12]) ?_ hd hR
  have := run_loadVar_row (P := Try.prog) w g _ 28 #[c0, c1, c2, c3, c4, c5, c6, c7, c8, c9, c10, c11, c12] (0, 0) _ hb Try.underlying28 rfl (by exact sizeM)
  rw [results_cell1 h]
  simp only [hp, asAddr]
  simp [this, Result.andThen]
/-- An image and a fault as results. -/
theorem ret_im {fn : Func} {R : Ending → World → Prop} {a : Act} {w : World} {p u : Tmp} {g : Nat} {er : Int} {c0 c1 c2 c3 c4 c5 c6 c7 c8 c9 c10 c11 c12 : Value} (h : fn.results = #[.cell p 28, .tmp u])
    (hp : a.tmps.getD p undef = .pointer (some ⟨g, 0, none⟩)) (hu : a.tmps.getD u undef = .int .i64 er) (hb : Blk w g 28 [c0, c1, c2, c3, c4, c5, c6, c7, c8, c9, c10, c11, c12]) (hd : a.defers = [])
    (hR : R (.returned (.tuple #[.agg #[c0, c1, c2, c3, c4, c5, c6, c7, c8, c9, c10, c11, c12], .int .i64 er])) w) : bodyPost Try.prog fn R .ret a w := by
  refine bodyPost_ret_by (v := .tuple #[.agg #[c0, c1, c2, c3, c4, c5, c6, c7, c8, c9, c10, c11, c12], .int .i64 er]) ?_ hd hR
  have := run_loadVar_row (P := Try.prog) w g _ 28 #[c0, c1, c2, c3, c4, c5, c6, c7, c8, c9, c10, c11, c12] (0, 0) _ hb Try.underlying28 rfl (by exact sizeM)
  rw [results_cell_tmp h]
  simp only [hp, hu, asAddr]
  simp [this, Result.andThen]

end Go.Proofs.Ytdikiabjkmigdaa
