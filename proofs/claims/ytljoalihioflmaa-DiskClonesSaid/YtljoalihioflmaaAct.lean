/-
  What the reading of an Act says of its cells. No conditions but those of the theorem.
-/
import Derived.Test.YtljoalihioflmaaRd
namespace Go.Proofs.Ytljoalihioflmaa
open Go.RowKit Go.WideShapes
set_option maxRecDepth 100000

def I64 (n : Int) : Prop := -9223372036854775808 ≤ n ∧ n ≤ 9223372036854775807

theorem cells_u8 : Try.prog.cellsOf 5 = 1 := by kernel_rfl
theorem cells_int : Try.prog.cellsOf 3 = 1 := by kernel_rfl
theorem cells_bytes : Try.prog.cellsOf 31 = 1 := by kernel_rfl
theorem cells_keep : Try.prog.cellsOf 32 = 8 := by kernel_rfl
theorem cells_act : Try.prog.cellsOf 34 = 12 := by kernel_rfl

theorem rd_ints8 {w : World} {c4 c5 c6 c7 c8 c9 c10 c11 : Value} (h : Rd Try.prog w 32 [c4, c5, c6, c7, c8, c9, c10, c11]) :
    ∃ k0 k1 k2 k3 k4 k5 k6 k7, c4 = .int .i64 k0 ∧ c5 = .int .i64 k1 ∧ c6 = .int .i64 k2 ∧ c7 = .int .i64 k3 ∧ c8 = .int .i64 k4 ∧ c9 = .int .i64 k5 ∧ c10 = .int .i64 k6 ∧ c11 = .int .i64 k7 ∧
      I64 k0 ∧ I64 k1 ∧ I64 k2 ∧ I64 k3 ∧ I64 k4 ∧ I64 k5 ∧ I64 k6 ∧ I64 k7 := by
  obtain ⟨_, hi⟩ := h.array Try.underlying32
  rw [cells_int] at hi
  have get : ∀ i (hi8 : i < 8) c, ([c4, c5, c6, c7, c8, c9, c10, c11].drop (i * 1)).take 1 = [c] → ∃ n, c = .int .i64 n ∧ I64 n := by
    intro i hi8 c hc
    have h1 := hi i hi8
    rw [hc] at h1
    obtain ⟨n, e, hw⟩ := h1.int Try.underlying3
    exact ⟨n, by injection e, wf_i64 hw⟩
  obtain ⟨k0, e0, i0⟩ := get 0 (by decide) c4 rfl
  obtain ⟨k1, e1, i1⟩ := get 1 (by decide) c5 rfl
  obtain ⟨k2, e2, i2⟩ := get 2 (by decide) c6 rfl
  obtain ⟨k3, e3, i3⟩ := get 3 (by decide) c7 rfl
  obtain ⟨k4, e4, i4⟩ := get 4 (by decide) c8 rfl
  obtain ⟨k5, e5, i5⟩ := get 5 (by decide) c9 rfl
  obtain ⟨k6, e6, i6⟩ := get 6 (by decide) c10 rfl
  obtain ⟨k7, e7, i7⟩ := get 7 (by decide) c11 rfl
  exact ⟨k0, k1, k2, k3, k4, k5, k6, k7, e0, e1, e2, e3, e4, e5, e6, e7, i0, i1, i2, i3, i4, i5, i6, i7⟩

/-- An Act's cells. -/
structure ActOf (w : World) (cs : List Value) (k A B : Int) (a : Option Addr) (xs : List UInt8) (cap : Nat) (k0 k1 k2 k3 k4 k5 k6 k7 : Int) : Prop where
  cells : cs = [.int .u8 k, .int .i64 A, .int .i64 B, .slice a xs.length cap, .int .i64 k0, .int .i64 k1, .int .i64 k2, .int .i64 k3, .int .i64 k4, .int .i64 k5, .int .i64 k6, .int .i64 k7]
  kind : 0 ≤ k ∧ k < 256
  a64 : I64 A
  b64 : I64 B
  fit : xs.length ≤ cap ∧ cap ≤ maxLen
  bytes : IsBytes w a xs
  nil : a = none → cap = 0
  keep : I64 k0 ∧ I64 k1 ∧ I64 k2 ∧ I64 k3 ∧ I64 k4 ∧ I64 k5 ∧ I64 k6 ∧ I64 k7

theorem rd_act {w : World} {cs : List Value} (h : Rd Try.prog w 34 cs) :
    ∃ k A B a xs cap k0 k1 k2 k3 k4 k5 k6 k7, ActOf w cs k A B a xs cap k0 k1 k2 k3 k4 k5 k6 k7 := by
  obtain ⟨hl, _⟩ := h.struct Try.underlying34
  rw [cells_act] at hl
  match cs, hl with
  | [c0, c1, c2, c3, c4, c5, c6, c7, c8, c9, c10, c11], _ =>
    have f0 : Rd Try.prog w 5 [c0] := h.field Try.underlying34 0 rfl rfl rfl cells_u8
    have f1 : Rd Try.prog w 3 [c1] := h.field Try.underlying34 1 rfl rfl rfl cells_int
    have f2 : Rd Try.prog w 3 [c2] := h.field Try.underlying34 2 rfl rfl rfl cells_int
    have f3 : Rd Try.prog w 31 [c3] := h.field Try.underlying34 3 rfl rfl rfl cells_bytes
    have f4 : Rd Try.prog w 32 [c4, c5, c6, c7, c8, c9, c10, c11] := h.field Try.underlying34 4 rfl rfl rfl cells_keep
    obtain ⟨k, e0, h0⟩ := f0.int Try.underlying5
    obtain ⟨A, e1, h1⟩ := f1.int Try.underlying3
    obtain ⟨B, e2, h2⟩ := f2.int Try.underlying3
    obtain ⟨a, cap, xs, e3, h3, h4, h5, h6⟩ := f3.bytes Try.underlying31 Try.underlying5 cells_u8
    obtain ⟨k0, k1, k2, k3, k4, k5, k6, k7, rfl, rfl, rfl, rfl, rfl, rfl, rfl, rfl, hk⟩ := rd_ints8 f4
    obtain rfl : c0 = .int .u8 k := by injection e0
    obtain rfl : c1 = .int .i64 A := by injection e1
    obtain rfl : c2 = .int .i64 B := by injection e2
    obtain rfl : c3 = .slice a xs.length cap := by injection e3
    exact ⟨k, A, B, a, xs, cap, k0, k1, k2, k3, k4, k5, k6, k7, rfl, wf_u8 h0, wf_i64 h1, wf_i64 h2, ⟨h3, h4⟩, h5, h6, hk⟩

theorem rd_keep {w : World} {v : Value} {r : Reach} {base : Nat} (hv : Value.okWide Try.prog w r base 32 v) (h : Rd Try.prog w 32 v.cells.toList) :
    ∃ k0 k1 k2 k3 k4 k5 k6 k7, v = .agg #[.int .i64 k0, .int .i64 k1, .int .i64 k2, .int .i64 k3, .int .i64 k4, .int .i64 k5, .int .i64 k6, .int .i64 k7] := by
  have hl := (h.array Try.underlying32).1
  rw [cells_keep] at hl
  rw [val_agg hv Try.underlying32]
  generalize v.cells = cs at *
  obtain ⟨l⟩ := cs
  match l, hl with
  | [c4, c5, c6, c7, c8, c9, c10, c11], _ =>
    obtain ⟨k0, k1, k2, k3, k4, k5, k6, k7, rfl, rfl, rfl, rfl, rfl, rfl, rfl, rfl, _⟩ := rd_ints8 h
    exact ⟨k0, k1, k2, k3, k4, k5, k6, k7, rfl⟩
theorem act_value {w : World} {v : Value} {base : Nat} (h : Value.okWide Try.prog w .any base 34 v) : v = .agg v.cells := by
  obtain ⟨cs, rfl, _⟩ := okWide_struct Try.underlying34 h
  rfl
end Go.Proofs.Ytljoalihioflmaa
