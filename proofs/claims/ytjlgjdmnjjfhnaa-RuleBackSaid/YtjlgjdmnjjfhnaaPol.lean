/-
  A policy as cells; recoupref05's points, RightPolicy, RightTable. Conditions: those of each theorem.
-/
import Derived.Test.YtjlgjdmnjjfhnaaSlices
import Derived.Test.YtjlgjdmnjjfhnaaOps
import Derived.Deep.LoopGhost
import Derived.Deep.QuietTactic
import Derived.BigQuiet
import Derived.Deep.DeepCutAuto
namespace Go.Proofs.Ytjlgjdmnjjfhnaa
open Go.RowKit
set_option maxRecDepth 100000

/-- A policy. -/
structure Pol where
  win : Int
  fin : Bool
  exc : Bool
  cre : Bool
  fee : Nat → Int
  share : Nat → Int
  dest : Nat → Int
def Pol.arr (p : Pol) : Array Value := #[.int .i64 p.win, .bool p.fin, .bool p.exc, .bool p.cre, .int .i64 (p.fee 0), .int .i64 (p.fee 1), .int .i64 (p.fee 2), .int .i64 (p.fee 3),
  .int .i64 (p.share 0), .int .i64 (p.dest 0), .int .i64 (p.share 1), .int .i64 (p.dest 1), .int .i64 (p.share 2), .int .i64 (p.dest 2), .int .i64 (p.share 3), .int .i64 (p.dest 3)]
theorem Pol.arr_size (p : Pol) : p.arr.size = 16 := rfl
/-- A policy in memory. -/
structure PolAt (w : World) (b o : Nat) (p : Pol) : Prop where
  lt : b < w.heap.size
  cells : ∀ j v, p.arr[j]? = some v → w.cell? ⟨b, o + j, none⟩ = some v
theorem PolAt.below {w w' : World} {b o B : Nat} {p : Pol} (h : PolAt w b o p) (k : Below B w w') (hB : b < B) : PolAt w' b o p :=
  ⟨Nat.lt_of_lt_of_le h.lt k.size, fun j v hj => (k.cell (p := ⟨b, o + j, none⟩) hB).trans (h.cells j v hj)⟩
theorem PolAt.grown {w w' : World} {b o : Nat} {p : Pol} (h : PolAt w b o p) (k : Below w.heap.size w w') : PolAt w' b o p := h.below k h.lt
theorem pol_new (w : World) (p : Pol) (t : TypeId) : PolAt (w.alloc (.cells p.arr t)) w.heap.size 0 p :=
  ⟨by simp, fun j v hj => by rw [Nat.zero_add]; exact (World.cell?_alloc_new w p.arr t j).trans hj⟩
section
variable {w : World} {b o : Nat} {p : Pol}
theorem PolAt.win (h : PolAt w b 0 p) : w.cell? ⟨b, 0, none⟩ = some (.int .i64 p.win) := h.cells 0 _ rfl
theorem PolAt.fin (h : PolAt w b 0 p) : w.cell? ⟨b, 1, none⟩ = some (.bool p.fin) := by simpa using h.cells 1 (.bool p.fin) rfl
theorem PolAt.exc (h : PolAt w b 0 p) : w.cell? ⟨b, 2, none⟩ = some (.bool p.exc) := by simpa using h.cells 2 (.bool p.exc) rfl
theorem PolAt.cre (h : PolAt w b 0 p) : w.cell? ⟨b, 3, none⟩ = some (.bool p.cre) := by simpa using h.cells 3 (.bool p.cre) rfl
theorem PolAt.fee (h : PolAt w b 0 p) (k : Nat) (hk : k < 4) : w.cell? ⟨b, 4 + k, none⟩ = some (.int .i64 (p.fee k)) := by
  have := h.cells (4 + k) (.int .i64 (p.fee k)) (by match k, hk with | 0, _ => rfl | 1, _ => rfl | 2, _ => rfl | 3, _ => rfl)
  rwa [Nat.zero_add] at this
theorem PolAt.share (h : PolAt w b 0 p) (k : Nat) (hk : k < 4) : w.cell? ⟨b, 8 + k * 2, none⟩ = some (.int .i64 (p.share k)) := by
  have := h.cells (8 + k * 2) (.int .i64 (p.share k)) (by match k, hk with | 0, _ => rfl | 1, _ => rfl | 2, _ => rfl | 3, _ => rfl)
  rwa [Nat.zero_add] at this
theorem PolAt.dest (h : PolAt w b 0 p) (k : Nat) (hk : k < 4) : w.cell? ⟨b, 8 + k * 2 + 1, none⟩ = some (.int .i64 (p.dest k)) := by
  have := h.cells (8 + k * 2 + 1) (.int .i64 (p.dest k)) (by match k, hk with | 0, _ => rfl | 1, _ => rfl | 2, _ => rfl | 3, _ => rfl)
  rwa [Nat.zero_add] at this
end

theorem PolAt.all {w : World} {b o : Nat} {p : Pol} (h : PolAt w b o p) : w.cell? ⟨b, o, none⟩ = some (.int .i64 p.win) ∧ w.cell? ⟨b, o + 1, none⟩ = some (.bool p.fin) ∧ w.cell? ⟨b, o + 2, none⟩ = some (.bool p.exc) ∧ w.cell? ⟨b, o + 3, none⟩ = some (.bool p.cre) ∧ w.cell? ⟨b, o + 4, none⟩ = some (.int .i64 (p.fee 0)) ∧ w.cell? ⟨b, o + 5, none⟩ = some (.int .i64 (p.fee 1)) ∧ w.cell? ⟨b, o + 6, none⟩ = some (.int .i64 (p.fee 2)) ∧ w.cell? ⟨b, o + 7, none⟩ = some (.int .i64 (p.fee 3)) ∧ w.cell? ⟨b, o + 8, none⟩ = some (.int .i64 (p.share 0)) ∧ w.cell? ⟨b, o + 9, none⟩ = some (.int .i64 (p.dest 0)) ∧ w.cell? ⟨b, o + 10, none⟩ = some (.int .i64 (p.share 1)) ∧ w.cell? ⟨b, o + 11, none⟩ = some (.int .i64 (p.dest 1)) ∧ w.cell? ⟨b, o + 12, none⟩ = some (.int .i64 (p.share 2)) ∧ w.cell? ⟨b, o + 13, none⟩ = some (.int .i64 (p.dest 2)) ∧ w.cell? ⟨b, o + 14, none⟩ = some (.int .i64 (p.share 3)) ∧ w.cell? ⟨b, o + 15, none⟩ = some (.int .i64 (p.dest 3)) :=
  ⟨h.cells 0 (.int .i64 p.win) rfl, h.cells 1 (.bool p.fin) rfl, h.cells 2 (.bool p.exc) rfl, h.cells 3 (.bool p.cre) rfl, h.cells 4 (.int .i64 (p.fee 0)) rfl, h.cells 5 (.int .i64 (p.fee 1)) rfl, h.cells 6 (.int .i64 (p.fee 2)) rfl, h.cells 7 (.int .i64 (p.fee 3)) rfl, h.cells 8 (.int .i64 (p.share 0)) rfl, h.cells 9 (.int .i64 (p.dest 0)) rfl, h.cells 10 (.int .i64 (p.share 1)) rfl, h.cells 11 (.int .i64 (p.dest 1)) rfl, h.cells 12 (.int .i64 (p.share 2)) rfl, h.cells 13 (.int .i64 (p.dest 2)) rfl, h.cells 14 (.int .i64 (p.share 3)) rfl, h.cells 15 (.int .i64 (p.dest 3)) rfl⟩

/-- Points. -/
def ptB (n : Int) : Bool := decide (0 ≤ n ∧ n ≤ 10000)
def gradeB (s t : Int) : Bool := ptB s && (t == 3 || t == 4 || t == 5 || (t == 0 && s == 0))
def rightP (p : Pol) : Bool := (List.range 4).all (fun k => ptB (p.fee k) && gradeB (p.share k) (p.dest k)) && decide (0 ≤ p.win ∧ p.win ≤ 1000)
def rightT (ps : List Pol) : Bool := decide (ps.length ≤ 16) && ps.all rightP

theorem rightP_bad {p : Pol} {k : Nat} (hk : k < 4) (h : (ptB (p.fee k) && gradeB (p.share k) (p.dest k)) = false) : rightP p = false := by
  unfold rightP
  rw [Bool.and_eq_false_iff]
  left
  rw [List.all_eq_false]
  exact ⟨k, List.mem_range.2 hk, by rw [h]; decide⟩
theorem all_next {p : Pol} {k : Nat} (ha : ((List.range k).all fun k => ptB (p.fee k) && gradeB (p.share k) (p.dest k)) = true) (h : (ptB (p.fee k) && gradeB (p.share k) (p.dest k)) = true) :
    ((List.range (k + 1)).all fun k => ptB (p.fee k) && gradeB (p.share k) (p.dest k)) = true := by
  rw [List.range_succ, List.all_append, ha]
  simpa using h

theorem ref_points (n : Int) (w : World) : Calls Try.prog 21 #[.int .i64 n] w fun e w' => e = .returned (.bool (ptB n)) ∧ w' = w := by
  by_cases h1 : 0 ≤ n
  · by_cases h2 : n ≤ 10000
    · have hr : ptB n = true := by simp [ptB]; omega
      rw [hr]
      clear hr
      go_enter Try.func21, Try.ntmps21
      go_wp2
      go_ret
      exact ⟨rfl, rfl⟩
    · have hr : ptB n = false := by simp [ptB]; omega
      rw [hr]
      clear hr
      go_enter Try.func21, Try.ntmps21
      go_wp2
      go_ret
      exact ⟨rfl, rfl⟩
  · have hr : ptB n = false := by simp [ptB]; omega
    rw [hr]
    clear hr
    go_enter Try.func21, Try.ntmps21
    go_wp2
    go_ret
    exact ⟨rfl, rfl⟩
end Go.Proofs.Ytjlgjdmnjjfhnaa
