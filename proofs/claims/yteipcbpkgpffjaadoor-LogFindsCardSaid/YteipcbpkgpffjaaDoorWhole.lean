/-
  The code's Whole. Conditions: those of each theorem ('HalvesAt': memory holds the table).
-/
import Derived.Test.YteipcbpkgpffjaaDoorEach
namespace Go.Proofs.YteipcbpkgpffjaaDoor
open Go.RowKit Go.Shelf
set_option maxRecDepth 100000
attribute [local go_sem] Oper.semAt_some

/-- Between two rounds of Whole: the box holds the place behind what has come. -/
def WholeAt (L : List (List UInt8)) (bx D l : Nat) (r : Loop) (i : Nat) (S : Nat → Prop) (W : World) : Prop :=
  S = (fun k => k = bx ∨ k = D ∨ k = l) ∧ Boxed W bx 3 (.int .i64 (endOf 0 (L.take i) : Nat)) ∧ W.heap[D]? = some (.deferred (some [])) ∧ W.heap[l]? = some (.loop r)
theorem WholeAt.caller (L : List (List UInt8)) (bx D l : Nat) (r : Loop) : Caller (WholeAt L bx D l r) := by
  constructor
  · rintro i S W ⟨rfl, h1, h2, h3⟩ k (rfl | rfl | rfl)
    · exact h1.lt
    · exact heap_lt h2
    · exact heap_lt h3
  · rintro i S W W' ⟨rfl, h1, h2, h3⟩ hu
    exact ⟨rfl, heap_upd h1 hu (fun h => h (.inl rfl)), heap_upd h2 hu (fun h => h (.inr (.inl rfl))), heap_upd h3 hu (fun h => h (.inr (.inr rfl)))⟩
/-- How a round is left. -/
def RoundOut (J Jx : Nat → (Nat → Prop) → World → Prop) (i : Nat) (S : Nat → Prop) (W : World) (e : Ending) (W' : World) : Prop :=
  (e = .returned (.bool true) ∧ ∃ S', J (i + 1) S' W' ∧ Grows S W S' W') ∨ (e = .returned (.bool false) ∧ ∃ S', Jx i S' W' ∧ Grows S W S' W')
theorem boxed_set {S : Nat → Prop} {W : World} {B : Nat} {t : TypeId} {v : Value} (h : Boxed W B t v) (u : Value) (hs : S B) : Boxed (W.setCell ⟨B, 0, none⟩ u) B t u ∧ Upd S W (W.setCell ⟨B, 0, none⟩ u) :=
  ⟨h.set u, (Upd.refl _ _).setCell (p := ⟨B, 0, none⟩) (.inl hs) u⟩

end Go.Proofs.YteipcbpkgpffjaaDoor
