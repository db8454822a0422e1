/-
  A policy is equal to itself. No conditions.
-/
import Derived.Test.YtaogiocjgafohaaSelf
import Derived.Test.YtaogiocjgafohaaPol
namespace Go.Proofs.Ytaogiocjgafohaa
open Go.RowKit
set_option maxRecDepth 100000

theorem grade_self (d : Nat) (s t : Int) (W : World) : (Op.equalIn (d + 2) 37 (.agg #[.int .i64 s, .int .i64 t]) (.agg #[.int .i64 s, .int .i64 t])).run Try.prog W = .ok true W := by
  refine struct_self (d := d + 1) Try.underlying37 (by kernel_rfl) (fun f hf => ?_) W
  simp only [Program.fieldsOf, Try.underlying37, List.mem_cons, List.not_mem_nil, or_false] at hf
  rcases hf with rfl | rfl
  · exact piece_int Try.underlying3 (k := .i64) (n := s) rfl
  · exact piece_int Try.underlying3 (k := .i64) (n := t) rfl

theorem cells_grade : Try.prog.cellsOf 37 = 2 := by kernel_rfl
theorem cells_intp : Try.prog.cellsOf 3 = 1 := by kernel_rfl
theorem info_fees : (Try.prog.info? 35).map (·.size) = some 4 := by kernel_rfl
theorem info_grades : (Try.prog.info? 38).map (·.size) = some 8 := by kernel_rfl
theorem info_grade : (Try.prog.info? 37).map (·.size) = some 2 := by kernel_rfl
theorem info_some {P : Program} {t : TypeId} {n : Nat} (h : (P.info? t).map (·.size) = some n) : ∃ i, P.info? t = some i := by
  cases hq : P.info? t with
  | none => simp [hq] at h
  | some i => exact ⟨i, rfl⟩

theorem pol_self (d : Nat) (p : Pol) (W : World) : (Op.equalIn (d + 4) 40 (.agg p.arr) (.agg p.arr)).run Try.prog W = .ok true W := by
  refine struct_self (d := d + 3) Try.underlying40 (by kernel_rfl) (fun f hf => ?_) W
  simp only [Program.fieldsOf, Try.underlying40, List.mem_cons, List.not_mem_nil, or_false] at hf
  rcases hf with rfl | rfl | rfl | rfl | rfl | rfl
  · exact piece_int Try.underlying3 (k := .i64) (n := p.win) rfl
  · exact piece_bool Try.underlying4 (b := p.fin) rfl
  · exact piece_bool Try.underlying4 (b := p.exc) rfl
  · exact piece_bool Try.underlying4 (b := p.cre) rfl
  · refine piece_agg Try.underlying35 rfl info_fees fun W => ?_
    obtain ⟨i, hi⟩ : ∃ i, Try.prog.info? 3 = some i := ⟨_, rfl⟩
    refine array_self (d := d + 2) Try.underlying35 hi (fun j hj => ?_) W
    rw [cells_intp]
    match j, hj with
    | 0, _ => exact piece_int Try.underlying3 (k := .i64) (n := p.fee 0) rfl
    | 1, _ => exact piece_int Try.underlying3 (k := .i64) (n := p.fee 1) rfl
    | 2, _ => exact piece_int Try.underlying3 (k := .i64) (n := p.fee 2) rfl
    | 3, _ => exact piece_int Try.underlying3 (k := .i64) (n := p.fee 3) rfl
  · refine piece_agg Try.underlying38 rfl info_grades fun W => ?_
    obtain ⟨i, hi⟩ := info_some info_grade
    refine array_self (d := d + 2) Try.underlying38 hi (fun j hj => ?_) W
    rw [cells_grade]
    refine piece_agg Try.underlying37 rfl info_grade fun W => ?_
    match j, hj with
    | 0, _ => exact grade_self d (p.share 0) (p.dest 0) W
    | 1, _ => exact grade_self d (p.share 1) (p.dest 1) W
    | 2, _ => exact grade_self d (p.share 2) (p.dest 2) W
    | 3, _ => exact grade_self d (p.share 3) (p.dest 3) W
end Go.Proofs.Ytaogiocjgafohaa
