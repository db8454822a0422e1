/-
  Slices of bytes: what a row of bytes tells, bytes.Clone, and the statements' comparison of two lists of bytes. Conditions: those of each theorem.
-/
import Derived.Test.YtjlgjdmnjjfhnaaOpsB
import Derived.WalkSpells
import Derived.WalkLawsBesides
import Derived.Deep.QuietTactic
import Derived.BigQuiet
namespace Go.Proofs.Ytjlgjdmnjjfhnaa
open Go.RowKit
set_option maxRecDepth 100000

theorem u8_info : (Try.prog.info? 5).map (fun i => (i.zero, i.size, i.bytes)) = some (some (.int .u8 0), 1, 1) := by kernel_rfl

theorem bytes_of_row {w : World} {base n : Nat} {e : TypeId} {a : Option Addr} {c : Nat} {xs : List UInt8} (h : w.ownsRow base e 1 (.slice a n c) n (xs.map bval)) : IsBytes w a xs ∧ n = xs.length ∧ n ≤ c ∧ c ≤ maxLen ∧ (a = none → c = 0) := by
  have hl : n = xs.length := by have := h.1; simp at this; exact this.symm
  rcases h.2 with ⟨hv, hn⟩ | ⟨g, cap, cur, hv, _, hg, hnc, hcm, _, ht⟩
  · injection hv with h1 h2 h3
    exact ⟨.inl (List.length_eq_zero_iff.1 (by omega)), hl, by omega, by omega, fun _ => h3⟩
  · injection hv with h1 h2 h3
    subst h1
    refine ⟨.inr ⟨g, 0, rfl, (Array.getElem?_eq_some_iff.1 hg).1, fun i hi => ?_⟩, hl, by omega, by omega, fun x => by cases x⟩
    rw [Nat.zero_add, cell_of_row w g i cur e (0, 0) hg]
    have h2 : (xs.map bval)[i]? = some (bval xs[i]) := by simp [List.getElem?_map, List.getElem?_eq_getElem hi]
    rw [← ht, List.getElem?_take] at h2
    split at h2
    · simpa [bval] using h2
    · cases h2

theorem take_eq {xs ys : List UInt8} {k : Nat} (h : xs.take k = ys.take k) (h1 : k < xs.length) (h2 : k < ys.length) (e : xs[k] = ys[k]) : xs.take (k+1) = ys.take (k+1) := by
  rw [List.take_succ_eq_append_getElem h1, List.take_succ_eq_append_getElem h2, h, e]

end Go.Proofs.Ytjlgjdmnjjfhnaa
