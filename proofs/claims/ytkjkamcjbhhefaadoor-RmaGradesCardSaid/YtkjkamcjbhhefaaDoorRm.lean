/-
  A return, as memory holds it; Done, few. Conditions: those of each theorem.
-/
import Derived.Test.YtkjkamcjbhhefaaDoorRmInt
import Derived.Test.YtkjkamcjbhhefaaDoorRmLi
namespace Go.Proofs.YtkjkamcjbhhefaaDoor
open Go.RowKit
set_option maxRecDepth 100000

/-- A return's cells: its numbers, and where its units and grades lie. -/
structure Ret where
  num : Int
  ord : Int
  rea : Int
  want : Int
  res : Int
  cred : Bool
  st : Int
  day : Int
  uA : Option Addr
  uN : Nat
  uC : Nat
  gA : Option Addr
  gN : Nat
  gC : Nat
  wor : Int
  pai : Int
  cre : Int
  giv : Int
def ret0 : Ret := ⟨0, 0, 0, 0, 0, false, 0, 0, none, 0, 0, none, 0, 0, 0, 0, 0, 0⟩
/-- A return's units and grades. -/
structure RetAt (w : World) (r : Ret) (us gs : List Int) : Prop where
  u : LiAt w r.uA r.uN r.uC us
  g : LiAt w r.gA r.gN r.gC gs
theorem RetAt.below {w w' : World} {r : Ret} {us gs : List Int} (h : RetAt w r us gs) (hb : Below w.heap.size w w') : RetAt w' r us gs := ⟨h.u.below hb, h.g.below hb⟩
theorem retAt0 (w : World) : RetAt w ret0 [] [] := ⟨liAt0 w, liAt0 w⟩
/-- A block of a return. -/
structure RetBox (w : World) (g : Nat) (t : TypeId) (r : Ret) : Prop where
  at' : w.heap[g]? = some (.cells #[.int .i64 r.num, .int .i64 r.ord, .int .i64 r.rea, .int .i64 r.want, .int .i64 r.res, .bool r.cred, .int .i64 r.st, .int .i64 r.day, .slice r.uA r.uN r.uC, .slice r.gA r.gN r.gC, .int .i64 r.wor, .int .i64 r.pai, .int .i64 r.cre, .int .i64 r.giv] t (0, 0))
theorem RetBox.lt {w : World} {g : Nat} {t : TypeId} {r : Ret} (h : RetBox w g t r) : g < w.heap.size := (Array.getElem?_eq_some_iff.1 h.at').1
theorem RetBox.cells {w : World} {g : Nat} {t : TypeId} {r : Ret} (h : RetBox w g t r) : w.cell? ⟨g, 0, none⟩ = some (.int .i64 r.num) ∧ w.cell? ⟨g, 1, none⟩ = some (.int .i64 r.ord) ∧ w.cell? ⟨g, 2, none⟩ = some (.int .i64 r.rea) ∧ w.cell? ⟨g, 3, none⟩ = some (.int .i64 r.want) ∧ w.cell? ⟨g, 4, none⟩ = some (.int .i64 r.res) ∧ w.cell? ⟨g, 5, none⟩ = some (.bool r.cred) ∧ w.cell? ⟨g, 6, none⟩ = some (.int .i64 r.st) ∧ w.cell? ⟨g, 7, none⟩ = some (.int .i64 r.day) ∧ w.cell? ⟨g, 8, none⟩ = some (.slice r.uA r.uN r.uC) ∧ w.cell? ⟨g, 9, none⟩ = some (.slice r.gA r.gN r.gC) ∧ w.cell? ⟨g, 10, none⟩ = some (.int .i64 r.wor) ∧ w.cell? ⟨g, 11, none⟩ = some (.int .i64 r.pai) ∧ w.cell? ⟨g, 12, none⟩ = some (.int .i64 r.cre) ∧ w.cell? ⟨g, 13, none⟩ = some (.int .i64 r.giv) := by
  have := h.at'
  simp [World.cell?, this]
theorem RetBox.fz {w : World} {g : Nat} {t : TypeId} {r : Ret} (h : RetBox w g t r) (j : Nat) : w.frozen? ⟨g, j, none⟩ = false := by
  have := h.at'
  simp [World.frozen?, this]
theorem RetBox.upd {S : Nat → Prop} {w w' : World} {g : Nat} {t : TypeId} {r : Ret} (h : RetBox w g t r) (hu : Upd S w w') (hn : ¬ S g) : RetBox w' g t r := ⟨(hu.block g h.lt hn).trans h.at'⟩
theorem RetBox.below {w w' : World} {g : Nat} {t : TypeId} {r : Ret} (h : RetBox w g t r) (hb : Below w.heap.size w w') : RetBox w' g t r := h.upd (S := fun _ => False) (Upd.below hb) (fun x => x)
theorem RetBox.made (w : World) (t : TypeId) (r : Ret) : RetBox (w.alloc (.cells #[.int .i64 r.num, .int .i64 r.ord, .int .i64 r.rea, .int .i64 r.want, .int .i64 r.res, .bool r.cred, .int .i64 r.st, .int .i64 r.day, .slice r.uA r.uN r.uC, .slice r.gA r.gN r.gC, .int .i64 r.wor, .int .i64 r.pai, .int .i64 r.cre, .int .i64 r.giv] t)) w.heap.size t r := ⟨heap_alloc_new w _⟩
theorem RetBox.at_cells {w : World} {g : Nat} {t : TypeId} {r : Ret} (h : RetBox w g t r) : ∀ j v, (#[.int .i64 r.num, .int .i64 r.ord, .int .i64 r.rea, .int .i64 r.want, .int .i64 r.res, .bool r.cred, .int .i64 r.st, .int .i64 r.day, .slice r.uA r.uN r.uC, .slice r.gA r.gN r.gC, .int .i64 r.wor, .int .i64 r.pai, .int .i64 r.cre, .int .i64 r.giv] : Array Value)[j]? = some v → w.cell? ⟨g, 0 + j, none⟩ = some v := fun j v hv => by
  rw [Nat.zero_add, cell_of_row w g j _ _ _ h.at']
  exact hv
theorem info_ret : (Tryd.prog.info? 32).map (·.size) = some 14 := by kernel_rfl
theorem info_retO : (Tryd.prog.info? 34).map (·.size) = some 14 := by kernel_rfl

set_option maxHeartbeats 400000 in
theorem rma_done (r : Ret) (w : World) : Calls Tryd.prog 12 #[.agg #[.int .i64 r.num, .int .i64 r.ord, .int .i64 r.rea, .int .i64 r.want, .int .i64 r.res, .bool r.cred, .int .i64 r.st, .int .i64 r.day, .slice r.uA r.uN r.uC, .slice r.gA r.gN r.gC, .int .i64 r.wor, .int .i64 r.pai, .int .i64 r.cre, .int .i64 r.giv]] w fun e w' => e = .returned (.bool (fromB 6 r.st 9)) ∧ Below w.heap.size w w' := by
  have HF : Aside (∀ w, Calls Tryd.prog 31 #[.int .i64 6, .int .i64 r.st, .int .i64 9] w fun e w' => e = .returned (.bool (fromB 6 r.st 9)) ∧ w = w') := is_from 6 r.st 9
  obtain ⟨n0, n1, n2, n3, n4, n5, n6, n7, uA, uN, uC, gA, gN, gC, n10, n11, n12, n13⟩ := r
  dsimp only at *
  generalize fromB 6 n6 9 = q at *
  go_enter Tryd.func12, Tryd.ntmps12
  go_wp2_with fail
  refine Calls.mono (HF.out _) ?_
  rintro e w1 ⟨rfl, rfl⟩
  go_wp2
  go_ret
  exact ⟨rfl, upd_box _⟩

def fewB (r : Ret) : Bool := decide (r.uN ≤ 300) && decide (r.gN ≤ 300)
set_option maxHeartbeats 800000 in
theorem law_few (r : Ret) (w : World) : Calls Tryd.prog 13 #[.agg #[.int .i64 r.num, .int .i64 r.ord, .int .i64 r.rea, .int .i64 r.want, .int .i64 r.res, .bool r.cred, .int .i64 r.st, .int .i64 r.day, .slice r.uA r.uN r.uC, .slice r.gA r.gN r.gC, .int .i64 r.wor, .int .i64 r.pai, .int .i64 r.cre, .int .i64 r.giv]] w fun e w' => e = .returned (.bool (fewB r)) ∧ Below w.heap.size w w' := by
  obtain ⟨n0, n1, n2, n3, n4, n5, n6, n7, uA, uN, uC, gA, gN, gC, n10, n11, n12, n13⟩ := r
  dsimp only at *
  by_cases h1 : uN ≤ 300
  · have h1' : (uN : Int) ≤ 300 := by omega
    by_cases h2 : gN ≤ 300
    · have h2' : (gN : Int) ≤ 300 := by omega
      rw [show fewB ⟨n0, n1, n2, n3, n4, n5, n6, n7, uA, uN, uC, gA, gN, gC, n10, n11, n12, n13⟩ = true by simp [fewB, h1, h2]]
      clear h1 h2
      go_enter Tryd.func13, Tryd.ntmps13
      go_wp2
      go_ret
      exact ⟨rfl, upd_box _⟩
    · have h2' : ¬ (gN : Int) ≤ 300 := by omega
      rw [show fewB ⟨n0, n1, n2, n3, n4, n5, n6, n7, uA, uN, uC, gA, gN, gC, n10, n11, n12, n13⟩ = false by simp [fewB, h2]]
      clear h1 h2
      go_enter Tryd.func13, Tryd.ntmps13
      go_wp2
      go_ret
      exact ⟨rfl, upd_box _⟩
  · have h1' : ¬ (uN : Int) ≤ 300 := by omega
    rw [show fewB ⟨n0, n1, n2, n3, n4, n5, n6, n7, uA, uN, uC, gA, gN, gC, n10, n11, n12, n13⟩ = false by simp [fewB, h1]]
    clear h1
    go_enter Tryd.func13, Tryd.ntmps13
    go_wp2
    go_ret
    exact ⟨rfl, upd_box _⟩
end Go.Proofs.YtkjkamcjbhhefaaDoor
