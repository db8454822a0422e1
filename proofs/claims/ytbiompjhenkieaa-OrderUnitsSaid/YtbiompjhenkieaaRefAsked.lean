/-
  The document's Asked; rows of one cell an element. Conditions: those of the theorems.
-/
import Derived.Test.YtbiompjhenkieaaSplitX
import Derived.Test.YtbiompjhenkieaaBase
import Derived.Test.YtbiompjhenkieaaMoneyDiv
namespace Go.Proofs.Ytbiompjhenkieaa
open Go.RowKit
set_option maxRecDepth 100000

/-! ### Rows, cell by cell -/
structure RowV (B S n : Nat) (f : Nat → Value) (W : World) : Prop where
  new : B ≤ S
  lt : S < W.heap.size
  cs : ∀ t, t < n → W.cell? ⟨S, t, none⟩ = some (f t)
  fs : ∀ t, t < n → W.frozen? ⟨S, t, none⟩ = false
def updV (f : Nat → Value) (k : Nat) (x : Value) (t : Nat) : Value := if t = k then x else f t
theorem RowV.after {B S n : Nat} {f : Nat → Value} {W W' : World} (h : RowV B S n f W) (hb : Below W.heap.size W W') : RowV B S n f W' :=
  ⟨h.new, Nat.lt_of_lt_of_le h.lt hb.size, fun t ht => (hb.cell (p := ⟨S, t, none⟩) h.lt).trans (h.cs t ht), fun t ht => (hb.frozen (p := ⟨S, t, none⟩) h.lt).trans (h.fs t ht)⟩
theorem RowV.congr {B S n : Nat} {f g : Nat → Value} {W : World} (h : RowV B S n f W) (hf : ∀ t, t < n → f t = g t) : RowV B S n g W :=
  ⟨h.new, h.lt, fun t ht => by rw [← hf t ht]; exact h.cs t ht, h.fs⟩
theorem RowV.put {B S n : Nat} {f : Nat → Value} {W : World} (h : RowV B S n f W) (k : Nat) (hk : k < n) (x : Value) : RowV B S n (updV f k x) (W.setCell ⟨S, k, none⟩ x) :=
  ⟨h.new, by simpa using h.lt, fun t ht => by
    unfold updV
    by_cases e : t = k
    · subst e; rw [if_pos rfl]; exact World.cell?_setCell_same _ _ _ (h.cs t ht)
    · rw [if_neg e, World.cell?_setCell_other _ _ _ _ (by intro e'; simp only [Addr.mk.injEq] at e'; omega)]; exact h.cs t ht,
    fun t ht => by rw [World.frozen?_setCell]; exact h.fs t ht⟩
theorem RowV.other {B S n : Nat} {f : Nat → Value} {W : World} (h : RowV B S n f W) {R : Nat} (hR : R ≠ S) (k : Nat) (x : Value) : RowV B S n f (W.setCell ⟨R, k, none⟩ x) :=
  ⟨h.new, by simpa using h.lt, fun t ht => by rw [World.cell?_setCell_other _ _ _ _ (by intro e'; simp only [Addr.mk.injEq] at e'; exact hR (by omega))]; exact h.cs t ht, fun t ht => by rw [World.frozen?_setCell]; exact h.fs t ht⟩
theorem RowV.owned {W : World} {B : Nat} {e : TypeId} {n c : Nat} {xs : List Value} {a : Option Addr} (h : W.ownsRow B e 1 (.slice a n c) n xs) (hn : 0 < n) : ∃ S, a = some ⟨S, 0, none⟩ ∧ n ≤ c ∧ RowV B S n (fun t => xs.getD t (.bool false)) W := by
  obtain ⟨h1, ⟨_, h3⟩ | ⟨g, cap, cur, h2, h3, h4, h5, h6, h7, h8⟩⟩ := h
  · omega
  injection h2 with e1 e2 e3
  subst e1 e3
  refine ⟨g, rfl, h5, h3, (Array.getElem?_eq_some_iff.1 h4).1, fun t ht => ?_, fun t ht => ?_⟩
  · have hl : t < xs.length := by omega
    have h9 : cur[t]? = some (xs.getD t (.bool false)) := by
      have e : (cur.toList.take (n * 1))[t]? = some (xs.getD t (.bool false)) := by rw [h8]; simp [List.getD, hl]
      rw [List.getElem?_take, if_pos (by omega)] at e
      simpa using e
    unfold World.cell?
    rw [h4]
    exact h9
  · simp [World.frozen?, h4]
end Go.Proofs.Ytbiompjhenkieaa
