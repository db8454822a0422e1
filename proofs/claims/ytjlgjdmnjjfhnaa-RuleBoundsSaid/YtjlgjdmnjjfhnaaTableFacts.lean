/-
  What a right policy's numbers are. Plain. Conditions: those of each theorem.
-/
import Derived.Test.YtjlgjdmnjjfhnaaPol
namespace Go.Proofs.Ytjlgjdmnjjfhnaa
open Go.RowKit
set_option maxRecDepth 100000

/-- What a right policy's numbers are. -/
structure RightP (p : Pol) : Prop where
  win : 0 ≤ p.win ∧ p.win ≤ 1000
  fee : ∀ k, k < 4 → 0 ≤ p.fee k ∧ p.fee k ≤ 10000
  share : ∀ k, k < 4 → 0 ≤ p.share k ∧ p.share k ≤ 10000
  dest : ∀ k, k < 4 → 0 ≤ p.dest k ∧ p.dest k ≤ 5
theorem rightP_facts {p : Pol} (h : rightP p = true) : RightP p := by
  unfold rightP at h
  rw [Bool.and_eq_true, List.all_eq_true] at h
  obtain ⟨h1, h2⟩ := h
  have key : ∀ k, k < 4 → ptB (p.fee k) = true ∧ gradeB (p.share k) (p.dest k) = true := fun k hk => by
    have := h1 k (List.mem_range.2 hk)
    rwa [Bool.and_eq_true] at this
  refine ⟨of_decide_eq_true h2, fun k hk => ?_, fun k hk => ?_, fun k hk => ?_⟩
  · have := (key k hk).1
    unfold ptB at this
    exact of_decide_eq_true this
  · have := (key k hk).2
    unfold gradeB ptB at this
    rw [Bool.and_eq_true] at this
    exact of_decide_eq_true this.1
  · have := (key k hk).2
    simp [gradeB] at this
    omega

end Go.Proofs.Ytjlgjdmnjjfhnaa
