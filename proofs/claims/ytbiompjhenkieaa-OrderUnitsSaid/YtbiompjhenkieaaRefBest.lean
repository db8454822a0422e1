/-
  One more for the best that has none yet, again and again: plain. No program; conditions: those of each theorem.
-/
import Derived.Test.YtbiompjhenkieaaSortY
namespace Go.Proofs.Ytbiompjhenkieaa

/-- Whoever has one comes ahead of all that have none. -/
def UC (r : Nat → Int) (n : Nat) (G : Nat → Bool) : Prop := ∀ k j, k < n → j < n → G k = true → G j = false → ahead r k j = true
def give (G : Nat → Bool) (b t : Nat) : Bool := if t = b then true else G t
theorem count_more {G : Nat → Bool} {b : Nat} : ∀ n, b < n → G b = false → (List.range n).countP (give G b) = (List.range n).countP G + 1
  | 0, h, _ => by omega
  | n + 1, h, hg => by
    rw [List.range_succ, List.countP_append, List.countP_append, List.countP_singleton, List.countP_singleton]
    by_cases e : b = n
    · subst e
      have : (List.range b).countP (give G b) = (List.range b).countP G := List.countP_congr fun t ht => by
        unfold give
        rw [if_neg (by have := List.mem_range.1 ht; omega)]
      rw [this, hg, show give G b b = true from if_pos rfl]
      simp
    · rw [count_more n (by omega) hg, show give G b n = G n from if_neg (by omega)]
      omega
theorem count_all {G : Nat → Bool} (n : Nat) (h : ∀ t, t < n → G t = true) : (List.range n).countP G = n := by
  have := List.countP_eq_length (p := G) (l := List.range n)
  rw [this.2 (fun t ht => h t (List.mem_range.1 ht)), List.length_range]
/-- The best of those below i that have none. -/
def Best (r : Nat → Int) (G : Nat → Bool) (i : Nat) (B : Int) : Prop :=
  (B = -1 ∧ ∀ t, t < i → G t = true) ∨ ∃ b : Nat, B = b ∧ b < i ∧ G b = false ∧ ∀ t, t < i → G t = false → t ≠ b → ahead r b t = true
theorem Best.zero (r : Nat → Int) (G : Nat → Bool) : Best r G 0 (-1) := .inl ⟨rfl, fun t h => absurd h (Nat.not_lt_zero t)⟩
theorem Best.skip {r : Nat → Int} {G : Nat → Bool} {i : Nat} {B : Int} (h : Best r G i B) (hg : G i = true) : Best r G (i + 1) B := by
  rcases h with ⟨h1, h2⟩ | ⟨b, h1, h2, h3, h4⟩
  · exact .inl ⟨h1, fun t ht => by
      by_cases e : t = i
      · subst e; exact hg
      · exact h2 t (by omega)⟩
  · exact .inr ⟨b, h1, by omega, h3, fun t ht h5 h6 => by
      by_cases e : t = i
      · subst e; rw [hg] at h5; cases h5
      · exact h4 t (by omega) h5 h6⟩
theorem Best.first {r : Nat → Int} {G : Nat → Bool} {i : Nat} (h : ∀ t, t < i → G t = true) (hg : G i = false) : Best r G (i + 1) i :=
  .inr ⟨i, rfl, by omega, hg, fun t ht h5 h6 => by have := h t (by omega); rw [this] at h5; cases h5⟩
theorem Best.better {r : Nat → Int} {G : Nat → Bool} {i b : Nat} (h4 : ∀ t, t < i → G t = false → t ≠ b → ahead r b t = true) (hg : G i = false) (hr : r b < r i) : Best r G (i + 1) i :=
  .inr ⟨i, rfl, by omega, hg, fun t ht h5 h6 => by
    by_cases e : t = b
    · subst e; simp only [ahead, decide_eq_true_eq]; exact .inl hr
    · have := h4 t (by omega) h5 e
      simp only [ahead, decide_eq_true_eq] at *
      omega⟩
theorem Best.stay {r : Nat → Int} {G : Nat → Bool} {i b : Nat} (h2 : b < i) (h3 : G b = false) (h4 : ∀ t, t < i → G t = false → t ≠ b → ahead r b t = true) (hr : ¬ r b < r i) : Best r G (i + 1) b :=
  .inr ⟨b, rfl, by omega, h3, fun t ht h5 h6 => by
    by_cases e : t = i
    · subst e; simp only [ahead, decide_eq_true_eq]; omega
    · exact h4 t (by omega) h5 h6⟩
theorem Best.found {r : Nat → Int} {G : Nat → Bool} {n c : Nat} {B : Int} (h : Best r G n B) (hc : (List.range n).countP G = c) (hn : c < n) : ∃ b : Nat, B = b ∧ b < n ∧ G b = false ∧ ∀ t, t < n → G t = false → t ≠ b → ahead r b t = true := by
  rcases h with ⟨_, h2⟩ | h
  · rw [count_all n h2] at hc; omega
  · exact h
theorem UC.more {r : Nat → Int} {G : Nat → Bool} {n b : Nat} (h : UC r n G) (h4 : ∀ t, t < n → G t = false → t ≠ b → ahead r b t = true) : UC r n (give G b) := fun k j hk hj h1 h2 => by
  unfold give at h1 h2
  by_cases e : j = b
  · rw [if_pos e] at h2; cases h2
  · rw [if_neg e] at h2
    by_cases e2 : k = b
    · subst e2; exact h4 j hj h2 e
    · rw [if_neg e2] at h1; exact h k j hk hj h1 h2
end Go.Proofs.Ytbiompjhenkieaa
