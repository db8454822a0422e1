/-
  What follows of what a unit is worth: bounds; what goes back is worth nothing. Plain. Conditions: those of each theorem.
-/
import Derived.Test.YtjlgjdmnjjfhnaaRule
namespace Go.Proofs.Ytjlgjdmnjjfhnaa
open Go.RowKit
set_option maxRecDepth 100000

theorem worth_ok {p : Pol} {s r g : Int} (h : worthE p s r g = 0) : rightP p = true ∧ sumB s = true ∧ ∃ kr kg : Nat, r = kr ∧ g = kg ∧ kr < 4 ∧ kg < 4 ∧ worthV p s r g = worthOf p s kr kg := by
  unfold worthE at h
  unfold worthV
  cases hq : rightP p with
  | false => simp [hq] at h
  | true =>
    rw [hq] at h
    cases hr : four r with
    | false => simp [hr] at h
    | true =>
      cases hg : four g with
      | false => simp [hr, hg] at h
      | true =>
        cases hs : sumB s with
        | false => simp [hr, hg, hs] at h
        | true =>
          obtain ⟨kr, rfl, h1⟩ := four_nat hr
          obtain ⟨kg, rfl, h2⟩ := four_nat hg
          exact ⟨rfl, rfl, kr, kg, rfl, rfl, h1, h2, rfl⟩
theorem worth_between {p : Pol} {s r g : Int} (h : worthE p s r g = 0) : 0 ≤ worthV p s r g ∧ worthV p s r g ≤ s := by
  obtain ⟨h1, h2, kr, kg, rfl, rfl, h3, h4, h5⟩ := worth_ok h
  rw [h5]
  have := worth_bounds (rightP_facts h1) h2 h3 h4
  exact ⟨this.1, this.2.1⟩
theorem part_val {s n : Int} (hs : sumB s = true) (hn : 0 ≤ n ∧ n ≤ 10000) : partV s n 10000 = s * n / 10000 := (part_good (of_decide_eq_true hs) ⟨by decide, hn⟩).1
theorem part_mono {a b n : Int} (ha : sumB a = true) (hb : sumB b = true) (hn : 0 ≤ n ∧ n ≤ 10000) (h : a ≤ b) : partV a n 10000 ≤ partV b n 10000 := by
  rw [part_val ha hn, part_val hb hn]
  exact Int.ediv_le_ediv (by decide) (Int.mul_le_mul_of_nonneg_right h hn.1)
theorem less_mono {v1 v2 n : Int} (h1 : sumB v1 = true) (h2 : sumB v2 = true) (hn : 0 ≤ n ∧ n ≤ 10000) (h : v1 ≤ v2) : v1 - partV v1 n 10000 ≤ v2 - partV v2 n 10000 + 1 := by
  rw [part_val h1 hn, part_val h2 hn]
  have hm : (v2 - v1) * n ≤ (v2 - v1) * 10000 := Int.mul_le_mul_of_nonneg_left hn.2 (by omega)
  have he : (v2 - v1) * n = v2 * n - v1 * n := Int.sub_mul ..
  rw [he] at hm
  generalize v1 * n = x at *
  generalize v2 * n = y at *
  omega
theorem worth_mono {p : Pol} {a b r g : Int} (ha : worthE p a r g = 0) (hb : worthE p b r g = 0) (h : a ≤ b) : worthV p a r g ≤ worthV p b r g + 1 := by
  obtain ⟨h1, h2, kr, kg, rfl, rfl, h3, h4, h5⟩ := worth_ok ha
  obtain ⟨-, k2, kr', kg', e1, e2, k3, k4, k5⟩ := worth_ok hb
  obtain rfl : kr = kr' := by omega
  obtain rfl : kg = kg' := by omega
  rw [h5, k5]
  have hp := rightP_facts h1
  have m := part_mono h2 k2 (hp.share kg h4) h
  exact less_mono (worth_bounds hp h2 h3 h4).2.2 (worth_bounds hp k2 h3 h4).2.2 (hp.fee kr h3) m
theorem worth_back {p : Pol} {s r g : Int} (h : worthE p s r g = 0) (ht : toV p g = 0) : worthV p s r g = 0 := by
  obtain ⟨h1, h2, kr, kg, rfl, rfl, h3, h4, h5⟩ := worth_ok h
  have hd : p.dest kg = 0 := by
    unfold toV at ht
    rw [h1, show four (kg : Int) = true from decide_eq_true ⟨by omega, by omega⟩] at ht
    exact ht
  have hs : p.share kg = 0 := by
    unfold rightP at h1
    rw [Bool.and_eq_true, List.all_eq_true] at h1
    have := h1.1 kg (List.mem_range.2 h4)
    rw [Bool.and_eq_true] at this
    have h9 := this.2
    rw [hd] at h9
    simp [gradeB] at h9
    exact h9.2
  rw [h5]
  have hp := rightP_facts h1
  have e0 : partV s (p.share kg) 10000 = 0 := by rw [part_val h2 (hp.share kg h4), hs]; simp
  unfold worthOf
  rw [e0, part_val (by decide) (hp.fee kr h3)]
  simp
end Go.Proofs.Ytjlgjdmnjjfhnaa
