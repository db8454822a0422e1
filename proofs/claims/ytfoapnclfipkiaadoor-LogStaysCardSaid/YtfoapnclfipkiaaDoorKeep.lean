/-
  What the reading of eight numbers says of its cells. No conditions but those of the theorem.
-/
import Derived.Test.YtfoapnclfipkiaaDoorRd
namespace Go.Proofs.YtfoapnclfipkiaaDoor
open Go.RowKit Go.WideShapes
set_option maxRecDepth 100000

theorem cells_u8 : Tryd.prog.cellsOf 5 = 1 := by kernel_rfl
theorem cells_int : Tryd.prog.cellsOf 3 = 1 := by kernel_rfl
theorem cells_bytes : Tryd.prog.cellsOf 22 = 1 := by kernel_rfl
theorem cells_keep : Tryd.prog.cellsOf 34 = 8 := by kernel_rfl

theorem rd_ints8 {w : World} {c4 c5 c6 c7 c8 c9 c10 c11 : Value} (h : Rd Tryd.prog w 34 [c4, c5, c6, c7, c8, c9, c10, c11]) :
    ∃ k0 k1 k2 k3 k4 k5 k6 k7, c4 = .int .i64 k0 ∧ c5 = .int .i64 k1 ∧ c6 = .int .i64 k2 ∧ c7 = .int .i64 k3 ∧ c8 = .int .i64 k4 ∧ c9 = .int .i64 k5 ∧ c10 = .int .i64 k6 ∧ c11 = .int .i64 k7 ∧
      I64 k0 ∧ I64 k1 ∧ I64 k2 ∧ I64 k3 ∧ I64 k4 ∧ I64 k5 ∧ I64 k6 ∧ I64 k7 := by
  obtain ⟨_, hi⟩ := h.array Tryd.underlying34
  rw [cells_int] at hi
  have get : ∀ i (hi8 : i < 8) c, ([c4, c5, c6, c7, c8, c9, c10, c11].drop (i * 1)).take 1 = [c] → ∃ n, c = .int .i64 n ∧ I64 n := by
    intro i hi8 c hc
    have h1 := hi i hi8
    rw [hc] at h1
    obtain ⟨n, e, hw⟩ := h1.int Tryd.underlying3
    exact ⟨n, by injection e, wf_i64 hw⟩
  obtain ⟨k0, e0, i0⟩ := get 0 (by decide) c4 rfl
  obtain ⟨k1, e1, i1⟩ := get 1 (by decide) c5 rfl
  obtain ⟨k2, e2, i2⟩ := get 2 (by decide) c6 rfl
  obtain ⟨k3, e3, i3⟩ := get 3 (by decide) c7 rfl
  obtain ⟨k4, e4, i4⟩ := get 4 (by decide) c8 rfl
  obtain ⟨k5, e5, i5⟩ := get 5 (by decide) c9 rfl
  obtain ⟨k6, e6, i6⟩ := get 6 (by decide) c10 rfl
  obtain ⟨k7, e7, i7⟩ := get 7 (by decide) c11 rfl
  exact ⟨k0, k1, k2, k3, k4, k5, k6, k7, e0, e1, e2, e3, e4, e5, e6, e7, i0, i1, i2, i3, i4, i5, i6, i7⟩

theorem rd_keep {w : World} {v : Value} {r : Reach} {base : Nat} (hv : Value.okWide Tryd.prog w r base 34 v) (h : Rd Tryd.prog w 34 v.cells.toList) :
    ∃ k0 k1 k2 k3 k4 k5 k6 k7, v = .agg #[.int .i64 k0, .int .i64 k1, .int .i64 k2, .int .i64 k3, .int .i64 k4, .int .i64 k5, .int .i64 k6, .int .i64 k7] := by
  have hl := (h.array Tryd.underlying34).1
  rw [cells_keep] at hl
  rw [val_agg hv Tryd.underlying34]
  generalize v.cells = cs at *
  obtain ⟨l⟩ := cs
  match l, hl with
  | [c4, c5, c6, c7, c8, c9, c10, c11], _ =>
    obtain ⟨k0, k1, k2, k3, k4, k5, k6, k7, rfl, rfl, rfl, rfl, rfl, rfl, rfl, rfl, _⟩ := rd_ints8 h
    exact ⟨k0, k1, k2, k3, k4, k5, k6, k7, rfl⟩
end Go.Proofs.YtfoapnclfipkiaaDoor
