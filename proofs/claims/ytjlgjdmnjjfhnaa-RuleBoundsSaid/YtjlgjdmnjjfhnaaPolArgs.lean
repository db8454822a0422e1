/-
  Policies that come in. Conditions: those of each theorem.
-/
import Derived.Test.YtjlgjdmnjjfhnaaRefTable
import Derived.Test.YtjlgjdmnjjfhnaaRd
namespace Go.Proofs.Ytjlgjdmnjjfhnaa
open Go.RowKit Go.WideShapes
set_option maxRecDepth 100000

/-- All of a policy's numbers fit. -/
structure PolFit (p : Pol) : Prop where
  win : I64 p.win
  fee : ∀ k, k < 4 → I64 (p.fee k)
  share : ∀ k, k < 4 → I64 (p.share k)
  dest : ∀ k, k < 4 → I64 (p.dest k)
theorem cells_pol : Try.prog.cellsOf 27 = 16 := by kernel_rfl
theorem cells_pint : Try.prog.cellsOf 3 = 1 := by kernel_rfl
theorem cells_pbool : Try.prog.cellsOf 4 = 1 := by kernel_rfl
theorem cells_pfees : Try.prog.cellsOf 22 = 4 := by kernel_rfl
theorem cells_pgrades : Try.prog.cellsOf 25 = 8 := by kernel_rfl
theorem cells_pgrade : Try.prog.cellsOf 24 = 2 := by kernel_rfl

theorem rd_pol {w : World} {cs : List Value} (h : Rd Try.prog w 27 cs) : ∃ p : Pol, cs = p.arr.toList ∧ PolFit p := by
  have hl := (h.struct Try.underlying27).1
  rw [cells_pol] at hl
  match cs, hl with
  | [c0, c1, c2, c3, c4, c5, c6, c7, c8, c9, ca, cb, cc, cd, ce, cf], _ =>
    have f0 : Rd Try.prog w 3 [c0] := h.field Try.underlying27 0 rfl rfl rfl cells_pint
    have f1 : Rd Try.prog w 4 [c1] := h.field Try.underlying27 1 rfl rfl rfl cells_pbool
    have f2 : Rd Try.prog w 4 [c2] := h.field Try.underlying27 2 rfl rfl rfl cells_pbool
    have f3 : Rd Try.prog w 4 [c3] := h.field Try.underlying27 3 rfl rfl rfl cells_pbool
    have f4 : Rd Try.prog w 22 [c4, c5, c6, c7] := h.field Try.underlying27 4 rfl rfl rfl cells_pfees
    have f5 : Rd Try.prog w 25 [c8, c9, ca, cb, cc, cd, ce, cf] := h.field Try.underlying27 5 rfl rfl rfl cells_pgrades
    have g4 := (f4.array Try.underlying22).2
    have g5 := (f5.array Try.underlying25).2
    rw [cells_pint] at g4
    rw [cells_pgrade] at g5
    obtain ⟨v0, e0, w0⟩ := f0.int Try.underlying3
    obtain ⟨v1, e1⟩ := f1.bool Try.underlying4
    obtain ⟨v2, e2⟩ := f2.bool Try.underlying4
    obtain ⟨v3, e3⟩ := f3.bool Try.underlying4
    obtain ⟨v4, e4, w4⟩ := (g4 0 (by decide)).int Try.underlying3
    obtain ⟨v5, e5, w5⟩ := (g4 1 (by decide)).int Try.underlying3
    obtain ⟨v6, e6, w6⟩ := (g4 2 (by decide)).int Try.underlying3
    obtain ⟨v7, e7, w7⟩ := (g4 3 (by decide)).int Try.underlying3
    have gr : ∀ {x y : Value}, Rd Try.prog w 24 [x, y] → ∃ s t : Int, x = .int .i64 s ∧ y = .int .i64 t ∧ I64 s ∧ I64 t := by
      intro x y hg
      have a0 : Rd Try.prog w 3 [x] := hg.field Try.underlying24 0 rfl rfl rfl cells_pint
      have a1 : Rd Try.prog w 3 [y] := hg.field Try.underlying24 1 rfl rfl rfl cells_pint
      obtain ⟨s, b0, d0⟩ := a0.int Try.underlying3
      obtain ⟨t, b1, d1⟩ := a1.int Try.underlying3
      exact ⟨s, t, by injection b0, by injection b1, wf_i64 d0, wf_i64 d1⟩
    obtain ⟨s0, t0, e8, e9, m0, n0⟩ := gr (g5 0 (by decide))
    obtain ⟨s1, t1, ea, eb, m1, n1⟩ := gr (g5 1 (by decide))
    obtain ⟨s2, t2, ec, ed, m2, n2⟩ := gr (g5 2 (by decide))
    obtain ⟨s3, t3, ee, ef, m3, n3⟩ := gr (g5 3 (by decide))
    obtain rfl : c0 = .int .i64 v0 := by injection e0
    obtain rfl : c1 = .bool v1 := by injection e1
    obtain rfl : c2 = .bool v2 := by injection e2
    obtain rfl : c3 = .bool v3 := by injection e3
    obtain rfl : c4 = .int .i64 v4 := by injection e4
    obtain rfl : c5 = .int .i64 v5 := by injection e5
    obtain rfl : c6 = .int .i64 v6 := by injection e6
    obtain rfl : c7 = .int .i64 v7 := by injection e7
    subst e8 e9 ea eb ec ed ee ef
    let nth4 : Int → Int → Int → Int → Nat → Int := fun a b c d k => if k = 0 then a else if k = 1 then b else if k = 2 then c else d
    refine ⟨⟨v0, v1, v2, v3, nth4 v4 v5 v6 v7, nth4 s0 s1 s2 s3, nth4 t0 t1 t2 t3⟩, rfl, wf_i64 w0, ?_, ?_, ?_⟩
    · intro k hk
      match k, hk with
      | 0, _ => exact wf_i64 w4
      | 1, _ => exact wf_i64 w5
      | 2, _ => exact wf_i64 w6
      | 3, _ => exact wf_i64 w7
    · intro k hk
      match k, hk with
      | 0, _ => exact m0
      | 1, _ => exact m1
      | 2, _ => exact m2
      | 3, _ => exact m3
    · intro k hk
      match k, hk with
      | 0, _ => exact n0
      | 1, _ => exact n1
      | 2, _ => exact n2
      | 3, _ => exact n3

theorem pols_of {w : World} {a : Option Addr} {n c : Nat} (h : Rd Try.prog w 50 [.slice a n c]) : ∃ ps : List Pol, ps.length = n ∧ PolsAt w a ps ∧ n ≤ maxLen ∧ ∀ p ∈ ps, PolFit p := by
  obtain ⟨a', n', c', e, hn, hc, hr, _⟩ := h.slice_at Try.underlying50 cells_pol (by decide)
  injection e with e _
  injection e with e1 e2 e3
  subst e1 e2 e3
  have key : ∀ i, i < n → ∃ p : Pol, PolFit p ∧ ∃ b off, a = some ⟨b, off, none⟩ ∧ PolAt w b (off + i * 16) p := by
    intro i hi
    rcases hr with h0 | ⟨b, off, rfl, hb, hrow⟩
    · omega
    · obtain ⟨cs, hl, hat, hrd⟩ := hrow i (by omega)
      obtain ⟨p, rfl, hf⟩ := rd_pol hrd
      refine ⟨p, hf, b, off, rfl, hb, fun j v hj => ?_⟩
      have hj16 : j < 16 := (Array.getElem?_eq_some_iff.1 hj).1
      rw [hat j hj16, Array.getElem?_toList]
      exact hj
  refine ⟨(List.range n).map fun i => if h : i < n then Classical.choose (key i h) else ⟨0, false, false, false, fun _ => 0, fun _ => 0, fun _ => 0⟩, by simp, ?_, by omega, ?_⟩
  · by_cases h0 : n = 0
    · exact .inl (by simp [h0])
    · rcases hr with h1 | ⟨b, off, rfl, hb, _⟩
      · omega
      · refine .inr ⟨b, off, rfl, hb, fun i hi => ?_⟩
        simp only [List.length_map, List.length_range] at hi
        simp only [List.getElem_map, List.getElem_range, dif_pos hi]
        obtain ⟨_, b', off', e, h⟩ := Classical.choose_spec (key i hi)
        injection e with e
        injection e with e1 e2
        subst e1 e2
        exact h
  · intro p hp
    obtain ⟨i, hi, rfl⟩ := List.mem_map.1 hp
    have hi := List.mem_range.1 hi
    simp only [dif_pos hi]
    exact (Classical.choose_spec (key i hi)).1
end Go.Proofs.Ytjlgjdmnjjfhnaa
