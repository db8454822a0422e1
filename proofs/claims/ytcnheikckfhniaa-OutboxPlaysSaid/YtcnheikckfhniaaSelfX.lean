/-
  A value is equal to itself, piece by piece. Program-independent. Conditions: those of each theorem.
-/
import Derived.Test.YtcnheikckfhniaaBase
import Derived.Laws.StructEq
namespace Go.Proofs.Ytcnheikckfhniaa
open Go.RowKit
set_option maxRecDepth 100000

/-- A piece of a value is equal to itself. -/
def PieceSelf (P : Program) (d : Nat) (t : TypeId) (xs : Array Value) (off : Nat) : Prop := ∀ W : World, ∃ a, (part t xs off).run P W = .ok a W ∧ (Op.equalIn d t a a).run P W = .ok true W
theorem eqFields_self {P : Program} (d : Nat) (xs : Array Value) : ∀ (fs : List Field) (W : World), (∀ f ∈ fs, PieceSelf P d f.type xs f.offset) → (Op.eqFields d xs xs fs).run P W = .ok true W
  | [], W, _ => by simp [Op.eqFields]
  | f :: fs, W, h => by
    obtain ⟨a, h1, h2⟩ := h f (List.mem_cons_self ..) W
    have ih := eqFields_self d xs fs W fun g hg => h g (List.mem_cons_of_mem _ hg)
    unfold Op.eqFields
    by_cases hn : f.name ≠ "_"
    · rw [if_pos hn]
      simp only [Sem.run_bind, h1, h2, Result.andThen_ok, Bool.not_true, Bool.false_eq_true, if_false]
      exact ih
    · rw [if_neg hn]
      exact ih
theorem eqItems_self {P : Program} (d : Nat) (e : TypeId) (c : Nat) (xs : Array Value) : ∀ (is : List Nat) (W : World), (∀ i ∈ is, PieceSelf P d e xs (i * c)) → (Op.eqItems d e c xs xs is).run P W = .ok true W
  | [], W, _ => by simp [Op.eqItems]
  | i :: is, W, h => by
    obtain ⟨a, h1, h2⟩ := h i (List.mem_cons_self ..) W
    have ih := eqItems_self d e c xs is W fun g hg => h g (List.mem_cons_of_mem _ hg)
    simp only [Op.eqItems, Sem.run_bind, h1, h2, Result.andThen_ok, Bool.not_true, Bool.false_eq_true, if_false]
    exact ih
theorem run_isAgg_no {P : Program} {t : TypeId} {d : TypeDesc} (h : P.underlying t = some d) (hd : aggD d = false) (w : World) : (isAgg t).run P w = .ok false w := by
  unfold isAgg
  rw [Sem.run_bind, run_underlying h w]
  cases d <;> simp_all [aggD]
theorem piece_int {P : Program} {d off : Nat} {t : TypeId} {k k' : IntKind} {xs : Array Value} {n : Int} (ht : P.underlying t = some (.int k')) (hx : xs[off]? = some (.int k n)) : PieceSelf P (d + 1) t xs off := fun W =>
  ⟨.int k n, by simp [part, Sem.run_bind, run_isAgg_no ht rfl, hx], by rw [run_equalIn_int W d t k k' n n ht]; simp⟩
theorem piece_bool {P : Program} {d off : Nat} {t : TypeId} {xs : Array Value} {b : Bool} (ht : P.underlying t = some .bool) (hx : xs[off]? = some (.bool b)) : PieceSelf P (d + 1) t xs off := fun W =>
  ⟨.bool b, by simp [part, Sem.run_bind, run_isAgg_no ht rfl, hx], by rw [run_equalIn_bool' W d t b b ht]; simp⟩
theorem array_self {P : Program} {d n : Nat} {t e : TypeId} {i : TypeInfo} {xs : Array Value} (hu : P.underlying t = some (.array n e)) (hi : P.info? e = some i) (h : ∀ j, j < n → PieceSelf P d e xs (j * P.cellsOf e)) (W : World) :
    (Op.equalIn (d + 1) t (.agg xs) (.agg xs)).run P W = .ok true W := by
  rw [run_equalIn_array W d xs xs hu hi]
  exact eqItems_self d e _ xs _ W fun j hj => h j (List.mem_range.1 hj)
theorem struct_self {P : Program} {d : Nat} {t : TypeId} {xs : Array Value} (hu : P.underlying t = some (.struct (P.fieldsOf t))) (hp : P.stoodInHeld t = false) (h : ∀ f ∈ (P.fieldsOf t).toList, PieceSelf P d f.type xs f.offset) (W : World) :
    (Op.equalIn (d + 1) t (.agg xs) (.agg xs)).run P W = .ok true W := by
  rw [run_equalIn_struct W d t xs xs hu hp]
  exact eqFields_self d xs _ W h
/-- A piece that is an array or a struct itself. -/
theorem piece_agg {P : Program} {d off sz : Nat} {t : TypeId} {D : TypeDesc} {xs : Array Value} (hu : P.underlying t = some D) (hD : aggD D = true) (hs : (P.info? t).map (·.size) = some sz)
    (h : ∀ W : World, (Op.equalIn d t (.agg (xs.extract off (off + sz))) (.agg (xs.extract off (off + sz)))).run P W = .ok true W) : PieceSelf P d t xs off := fun W => by
  refine ⟨.agg (xs.extract off (off + sz)), ?_, h W⟩
  cases hq : P.info? t with
  | none => simp [hq] at hs
  | some j =>
    have hs' : j.size = sz := by simpa [hq] using hs
    simp [part, Sem.run_bind, run_isAgg_yes hu hD, sizeOf, typeInfo, hq, hs']
end Go.Proofs.Ytcnheikckfhniaa
