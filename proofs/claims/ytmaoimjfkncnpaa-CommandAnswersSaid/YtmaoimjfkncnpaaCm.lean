/-
  A command, as memory holds it; as an argument. Conditions: those of each theorem.
-/
import Derived.Test.YtmaoimjfkncnpaaRmInt
import Derived.Test.YtmaoimjfkncnpaaRmLi
namespace Go.Proofs.Ytmaoimjfkncnpaa
open Go.RowKit
set_option maxRecDepth 100000

/-- A command's cells: its numbers, and where its units lie. -/
structure Com where
  kind : Int
  ord : Int
  uA : Option Addr
  uN : Nat
  uC : Nat
  rea : Int
  want : Int
  cred : Bool
  rma : Int
  unit : Int
  grd : Int
  days : Int
  key : Int
  yes : Bool
def com0 : Com := ⟨0, 0, none, 0, 0, 0, 0, false, 0, 0, 0, 0, 0, false⟩
/-- A block of a command. -/
structure ComBox (w : World) (g : Nat) (t : TypeId) (r : Com) : Prop where
  at' : w.heap[g]? = some (.cells #[.int .i64 r.kind, .int .i64 r.ord, .slice r.uA r.uN r.uC, .int .i64 r.rea, .int .i64 r.want, .bool r.cred, .int .i64 r.rma, .int .i64 r.unit, .int .i64 r.grd, .int .i64 r.days, .int .i64 r.key, .bool r.yes] t (0, 0))
theorem ComBox.lt {w : World} {g : Nat} {t : TypeId} {r : Com} (h : ComBox w g t r) : g < w.heap.size := (Array.getElem?_eq_some_iff.1 h.at').1
theorem ComBox.cells {w : World} {g : Nat} {t : TypeId} {r : Com} (h : ComBox w g t r) : w.cell? ⟨g, 0, none⟩ = some (.int .i64 r.kind) ∧ w.cell? ⟨g, 1, none⟩ = some (.int .i64 r.ord) ∧ w.cell? ⟨g, 2, none⟩ = some (.slice r.uA r.uN r.uC) ∧ w.cell? ⟨g, 3, none⟩ = some (.int .i64 r.rea) ∧ w.cell? ⟨g, 4, none⟩ = some (.int .i64 r.want) ∧ w.cell? ⟨g, 5, none⟩ = some (.bool r.cred) ∧ w.cell? ⟨g, 6, none⟩ = some (.int .i64 r.rma) ∧ w.cell? ⟨g, 7, none⟩ = some (.int .i64 r.unit) ∧ w.cell? ⟨g, 8, none⟩ = some (.int .i64 r.grd) ∧ w.cell? ⟨g, 9, none⟩ = some (.int .i64 r.days) ∧ w.cell? ⟨g, 10, none⟩ = some (.int .i64 r.key) ∧ w.cell? ⟨g, 11, none⟩ = some (.bool r.yes) := by
  have := h.at'
  simp [World.cell?, this]
theorem ComBox.fz {w : World} {g : Nat} {t : TypeId} {r : Com} (h : ComBox w g t r) (j : Nat) : w.frozen? ⟨g, j, none⟩ = false := by
  have := h.at'
  simp [World.frozen?, this]
theorem ComBox.upd {S : Nat → Prop} {w w' : World} {g : Nat} {t : TypeId} {r : Com} (h : ComBox w g t r) (hu : Upd S w w') (hn : ¬ S g) : ComBox w' g t r := ⟨(hu.block g h.lt hn).trans h.at'⟩
theorem ComBox.below {w w' : World} {g : Nat} {t : TypeId} {r : Com} (h : ComBox w g t r) (hb : Below w.heap.size w w') : ComBox w' g t r := h.upd (S := fun _ => False) (Upd.below hb) (fun x => x)
theorem ComBox.made (w : World) (t : TypeId) (r : Com) : ComBox (w.alloc (.cells #[.int .i64 r.kind, .int .i64 r.ord, .slice r.uA r.uN r.uC, .int .i64 r.rea, .int .i64 r.want, .bool r.cred, .int .i64 r.rma, .int .i64 r.unit, .int .i64 r.grd, .int .i64 r.days, .int .i64 r.key, .bool r.yes] t)) w.heap.size t r := ⟨heap_alloc_new w _⟩
theorem ComBox.at_cells {w : World} {g : Nat} {t : TypeId} {r : Com} (h : ComBox w g t r) : ∀ j v, (#[.int .i64 r.kind, .int .i64 r.ord, .slice r.uA r.uN r.uC, .int .i64 r.rea, .int .i64 r.want, .bool r.cred, .int .i64 r.rma, .int .i64 r.unit, .int .i64 r.grd, .int .i64 r.days, .int .i64 r.key, .bool r.yes] : Array Value)[j]? = some v → w.cell? ⟨g, 0 + j, none⟩ = some v := fun j v hv => by
  rw [Nat.zero_add, cell_of_row w g j _ _ _ h.at']
  exact hv
theorem one_box (w : World) (t : TypeId) (r : Com) : ∃ W, W = w.alloc (.cells #[.int .i64 r.kind, .int .i64 r.ord, .slice r.uA r.uN r.uC, .int .i64 r.rea, .int .i64 r.want, .bool r.cred, .int .i64 r.rma, .int .i64 r.unit, .int .i64 r.grd, .int .i64 r.days, .int .i64 r.key, .bool r.yes] t) ∧ W.heap.size = w.heap.size + 1 ∧ Below w.heap.size w W ∧ ComBox W w.heap.size t r := ⟨_, rfl, by simp, upd_box _, ComBox.made w t r⟩
/-- Two boxes. -/
theorem two_boxes (w : World) (t1 t2 : TypeId) (r1 r2 : Com) : ∃ W, W = ((w.alloc (.cells #[.int .i64 r1.kind, .int .i64 r1.ord, .slice r1.uA r1.uN r1.uC, .int .i64 r1.rea, .int .i64 r1.want, .bool r1.cred, .int .i64 r1.rma, .int .i64 r1.unit, .int .i64 r1.grd, .int .i64 r1.days, .int .i64 r1.key, .bool r1.yes] t1)).alloc (.cells #[.int .i64 r2.kind, .int .i64 r2.ord, .slice r2.uA r2.uN r2.uC, .int .i64 r2.rea, .int .i64 r2.want, .bool r2.cred, .int .i64 r2.rma, .int .i64 r2.unit, .int .i64 r2.grd, .int .i64 r2.days, .int .i64 r2.key, .bool r2.yes] t2)) ∧ W.heap.size = w.heap.size + 2 ∧ Below w.heap.size w W ∧ ComBox W w.heap.size t1 r1 ∧ ComBox W (w.heap.size + 1) t2 r2 := by
  refine ⟨_, rfl, by simp, blw_alloc (upd_box _) _, ?_, ?_⟩
  · exact (ComBox.made w t1 r1).below (upd_box _)
  · have := ComBox.made (w.alloc (.cells #[.int .i64 r1.kind, .int .i64 r1.ord, .slice r1.uA r1.uN r1.uC, .int .i64 r1.rea, .int .i64 r1.want, .bool r1.cred, .int .i64 r1.rma, .int .i64 r1.unit, .int .i64 r1.grd, .int .i64 r1.days, .int .i64 r1.key, .bool r1.yes] t1)) t2 r2
    rwa [show (w.alloc (.cells #[.int .i64 r1.kind, .int .i64 r1.ord, .slice r1.uA r1.uN r1.uC, .int .i64 r1.rea, .int .i64 r1.want, .bool r1.cred, .int .i64 r1.rma, .int .i64 r1.unit, .int .i64 r1.grd, .int .i64 r1.days, .int .i64 r1.key, .bool r1.yes] t1)).heap.size = w.heap.size + 1 by simp] at this
/-- Three boxes. -/
theorem three_boxes (w : World) (t1 t2 t3 : TypeId) (r1 r2 r3 : Com) : ∃ W, W = (((w.alloc (.cells #[.int .i64 r1.kind, .int .i64 r1.ord, .slice r1.uA r1.uN r1.uC, .int .i64 r1.rea, .int .i64 r1.want, .bool r1.cred, .int .i64 r1.rma, .int .i64 r1.unit, .int .i64 r1.grd, .int .i64 r1.days, .int .i64 r1.key, .bool r1.yes] t1)).alloc (.cells #[.int .i64 r2.kind, .int .i64 r2.ord, .slice r2.uA r2.uN r2.uC, .int .i64 r2.rea, .int .i64 r2.want, .bool r2.cred, .int .i64 r2.rma, .int .i64 r2.unit, .int .i64 r2.grd, .int .i64 r2.days, .int .i64 r2.key, .bool r2.yes] t2)).alloc (.cells #[.int .i64 r3.kind, .int .i64 r3.ord, .slice r3.uA r3.uN r3.uC, .int .i64 r3.rea, .int .i64 r3.want, .bool r3.cred, .int .i64 r3.rma, .int .i64 r3.unit, .int .i64 r3.grd, .int .i64 r3.days, .int .i64 r3.key, .bool r3.yes] t3)) ∧ W.heap.size = w.heap.size + 3 ∧ Below w.heap.size w W ∧ ComBox W w.heap.size t1 r1 ∧ ComBox W (w.heap.size + 1) t2 r2 ∧ ComBox W (w.heap.size + 2) t3 r3 := by
  refine ⟨_, rfl, by simp, blw_alloc (blw_alloc (upd_box _) _) _, ?_, ?_, ?_⟩
  · exact ((ComBox.made w t1 r1).below (upd_box _)).below (upd_box _)
  · have := (ComBox.made (w.alloc (.cells #[.int .i64 r1.kind, .int .i64 r1.ord, .slice r1.uA r1.uN r1.uC, .int .i64 r1.rea, .int .i64 r1.want, .bool r1.cred, .int .i64 r1.rma, .int .i64 r1.unit, .int .i64 r1.grd, .int .i64 r1.days, .int .i64 r1.key, .bool r1.yes] t1)) t2 r2).below (upd_box (.cells #[.int .i64 r3.kind, .int .i64 r3.ord, .slice r3.uA r3.uN r3.uC, .int .i64 r3.rea, .int .i64 r3.want, .bool r3.cred, .int .i64 r3.rma, .int .i64 r3.unit, .int .i64 r3.grd, .int .i64 r3.days, .int .i64 r3.key, .bool r3.yes] t3))
    rwa [show (w.alloc (.cells #[.int .i64 r1.kind, .int .i64 r1.ord, .slice r1.uA r1.uN r1.uC, .int .i64 r1.rea, .int .i64 r1.want, .bool r1.cred, .int .i64 r1.rma, .int .i64 r1.unit, .int .i64 r1.grd, .int .i64 r1.days, .int .i64 r1.key, .bool r1.yes] t1)).heap.size = w.heap.size + 1 by simp] at this
  · have := ComBox.made ((w.alloc (.cells #[.int .i64 r1.kind, .int .i64 r1.ord, .slice r1.uA r1.uN r1.uC, .int .i64 r1.rea, .int .i64 r1.want, .bool r1.cred, .int .i64 r1.rma, .int .i64 r1.unit, .int .i64 r1.grd, .int .i64 r1.days, .int .i64 r1.key, .bool r1.yes] t1)).alloc (.cells #[.int .i64 r2.kind, .int .i64 r2.ord, .slice r2.uA r2.uN r2.uC, .int .i64 r2.rea, .int .i64 r2.want, .bool r2.cred, .int .i64 r2.rma, .int .i64 r2.unit, .int .i64 r2.grd, .int .i64 r2.days, .int .i64 r2.key, .bool r2.yes] t2)) t3 r3
    rwa [show ((w.alloc (.cells #[.int .i64 r1.kind, .int .i64 r1.ord, .slice r1.uA r1.uN r1.uC, .int .i64 r1.rea, .int .i64 r1.want, .bool r1.cred, .int .i64 r1.rma, .int .i64 r1.unit, .int .i64 r1.grd, .int .i64 r1.days, .int .i64 r1.key, .bool r1.yes] t1)).alloc (.cells #[.int .i64 r2.kind, .int .i64 r2.ord, .slice r2.uA r2.uN r2.uC, .int .i64 r2.rea, .int .i64 r2.want, .bool r2.cred, .int .i64 r2.rma, .int .i64 r2.unit, .int .i64 r2.grd, .int .i64 r2.days, .int .i64 r2.key, .bool r2.yes] t2)).heap.size = w.heap.size + 2 by simp] at this
theorem info_com : (Try.prog.info? 30).map (·.size) = some 12 := by kernel_rfl
theorem info_comO : (Try.prog.info? 24).map (·.size) = some 12 := by kernel_rfl
/-- Twelve cells are stored. -/
def set12 (w : World) (g : Nat) (r : Com) : World := (((((((((((w.setCell ⟨g, 0, none⟩ (.int .i64 r.kind)).setCell ⟨g, 1, none⟩ (.int .i64 r.ord)).setCell ⟨g, 2, none⟩ (.slice r.uA r.uN r.uC)).setCell ⟨g, 3, none⟩ (.int .i64 r.rea)).setCell ⟨g, 4, none⟩ (.int .i64 r.want)).setCell ⟨g, 5, none⟩ (.bool r.cred)).setCell ⟨g, 6, none⟩ (.int .i64 r.rma)).setCell ⟨g, 7, none⟩ (.int .i64 r.unit)).setCell ⟨g, 8, none⟩ (.int .i64 r.grd)).setCell ⟨g, 9, none⟩ (.int .i64 r.days)).setCell ⟨g, 10, none⟩ (.int .i64 r.key)).setCell ⟨g, 11, none⟩ (.bool r.yes)
theorem set12_upd (w : World) (g : Nat) (r : Com) : Upd (fun k => k = g) w (set12 w g r) := by
  unfold set12
  refine Upd.trans (S' := fun k => k = g) ?_ (upd_set _ _) (fun _ _ x => x)
  refine Upd.trans (S' := fun k => k = g) ?_ (upd_set _ _) (fun _ _ x => x)
  refine Upd.trans (S' := fun k => k = g) ?_ (upd_set _ _) (fun _ _ x => x)
  refine Upd.trans (S' := fun k => k = g) ?_ (upd_set _ _) (fun _ _ x => x)
  refine Upd.trans (S' := fun k => k = g) ?_ (upd_set _ _) (fun _ _ x => x)
  refine Upd.trans (S' := fun k => k = g) ?_ (upd_set _ _) (fun _ _ x => x)
  refine Upd.trans (S' := fun k => k = g) ?_ (upd_set _ _) (fun _ _ x => x)
  refine Upd.trans (S' := fun k => k = g) ?_ (upd_set _ _) (fun _ _ x => x)
  refine Upd.trans (S' := fun k => k = g) ?_ (upd_set _ _) (fun _ _ x => x)
  refine Upd.trans (S' := fun k => k = g) ?_ (upd_set _ _) (fun _ _ x => x)
  refine Upd.trans (S' := fun k => k = g) ?_ (upd_set _ _) (fun _ _ x => x)
  exact upd_set _ _
theorem set12_at {w : World} {g : Nat} {t : TypeId} {x : Com} (h : ComBox w g t x) (r : Com) : ComBox (set12 w g r) g t r := by
  have g0 := setCell_heap_at (o := 0) (u := .int .i64 r.kind) h.at'
  have g1 := setCell_heap_at (o := 1) (u := .int .i64 r.ord) g0
  have g2 := setCell_heap_at (o := 2) (u := .slice r.uA r.uN r.uC) g1
  have g3 := setCell_heap_at (o := 3) (u := .int .i64 r.rea) g2
  have g4 := setCell_heap_at (o := 4) (u := .int .i64 r.want) g3
  have g5 := setCell_heap_at (o := 5) (u := .bool r.cred) g4
  have g6 := setCell_heap_at (o := 6) (u := .int .i64 r.rma) g5
  have g7 := setCell_heap_at (o := 7) (u := .int .i64 r.unit) g6
  have g8 := setCell_heap_at (o := 8) (u := .int .i64 r.grd) g7
  have g9 := setCell_heap_at (o := 9) (u := .int .i64 r.days) g8
  have g10 := setCell_heap_at (o := 10) (u := .int .i64 r.key) g9
  have g11 := setCell_heap_at (o := 11) (u := .bool r.yes) g10
  exact ⟨by simpa [set12] using g11⟩

set_option maxHeartbeats 400000 in
theorem cm_isKind (v : Int) (w : World) : Calls Try.prog 22 #[.int .i64 v] w fun e w' => e = .returned (.bool (fromB 1 v 8)) ∧ w = w' := by
  by_cases h1 : 1 ≤ v
  · by_cases h2 : v ≤ 8
    · rw [fromB_yes h1 h2]
      go_enter Try.func22, Try.ntmps22
      go_wp2
      go_ret
      exact ⟨rfl, rfl⟩
    · rw [fromB_no2 h2]
      go_enter Try.func22, Try.ntmps22
      go_wp2
      go_ret
      exact ⟨rfl, rfl⟩
  · rw [fromB_no1 h1]
    go_enter Try.func22, Try.ntmps22
    go_wp2
    go_ret
    exact ⟨rfl, rfl⟩
set_option maxHeartbeats 400000 in
theorem cm_isCount (v : Int) (w : World) : Calls Try.prog 23 #[.int .i64 v] w fun e w' => e = .returned (.bool (fromB 1 v 60)) ∧ w = w' := by
  by_cases h1 : 1 ≤ v
  · by_cases h2 : v ≤ 60
    · rw [fromB_yes h1 h2]
      go_enter Try.func23, Try.ntmps23
      go_wp2
      go_ret
      exact ⟨rfl, rfl⟩
    · rw [fromB_no2 h2]
      go_enter Try.func23, Try.ntmps23
      go_wp2
      go_ret
      exact ⟨rfl, rfl⟩
  · rw [fromB_no1 h1]
    go_enter Try.func23, Try.ntmps23
    go_wp2
    go_ret
    exact ⟨rfl, rfl⟩

theorem val_struct {P : Program} {w : World} {t : TypeId} {fs : Array Field} {v : Value} {r : Reach} {base : Nat} (hv : Value.okWide P w r base t v) (ht : P.underlying t = some (.struct fs)) : v = .agg v.cells := by
  simp only [Value.okWide, ht] at hv
  obtain ⟨cs, rfl, _⟩ := hv
  rfl
theorem one64 : Try.prog.cellsOf 3 = 1 := by kernel_rfl
theorem oneB : Try.prog.cellsOf 4 = 1 := by kernel_rfl
theorem oneS : Try.prog.cellsOf 22 = 1 := by kernel_rfl
theorem twelve : Try.prog.cellsOf 24 = 12 := by kernel_rfl
/-- A list of ints as an argument. -/
theorem rd_ints {w : World} {cs : List Value} (h : Rd Try.prog w 22 cs) : ∃ a n c xs, cs = [.slice a n c] ∧ LiAt w a n c xs ∧ ∀ x ∈ xs, I64 x := by
  obtain ⟨a, n, c, rfl, h1, h2, h3, h4⟩ := h.slice_at Try.underlying22 one64 (by decide)
  rcases h3 with h0 | ⟨b, off, rfl, hb, hi⟩
  · obtain rfl : n = 0 := by omega
    exact ⟨a, 0, c, [], rfl, ⟨rfl, h1, h2, h4, .inl rfl⟩, fun x hx => by simp at hx⟩
  · have key : ∀ i, i < n → ∃ x : Int, w.cell? ⟨b, off + i, none⟩ = some (.int .i64 x) ∧ I64 x := by
      intro i hlt
      obtain ⟨cs', _, h1', h2'⟩ := hi i (by omega)
      obtain ⟨m, rfl, hm⟩ := h2'.int Try.underlying3
      have := h1' 0 Nat.one_pos
      simp only [Nat.mul_one, Nat.add_zero, List.getElem?_cons_zero] at this
      exact ⟨m, this, wf_i64 hm⟩
    obtain ⟨xs, hl, hx⟩ := list_choice n key
    refine ⟨_, n, c, xs, rfl, ⟨hl, h1, h2, h4, .inr ⟨b, off, rfl, hb, fun i hi => (hx i hi).1⟩⟩, fun x hx' => ?_⟩
    obtain ⟨i, hi, rfl⟩ := List.getElem_of_mem hx'
    exact (hx i hi).2
/-- Each number is one of 64 bits. -/
structure Fit64 (r : Com) (us : List Int) : Prop where
  kind : I64 r.kind
  ord : I64 r.ord
  us : ∀ x ∈ us, I64 x
  rea : I64 r.rea
  want : I64 r.want
  rma : I64 r.rma
  unit : I64 r.unit
  grd : I64 r.grd
  days : I64 r.days
  key : I64 r.key
theorem rd_com {w : World} {cs : List Value} (h : Rd Try.prog w 24 cs) : ∃ (r : Com) (us : List Int), cs = [.int .i64 r.kind, .int .i64 r.ord, .slice r.uA r.uN r.uC, .int .i64 r.rea, .int .i64 r.want, .bool r.cred, .int .i64 r.rma, .int .i64 r.unit, .int .i64 r.grd, .int .i64 r.days, .int .i64 r.key, .bool r.yes] ∧ LiAt w r.uA r.uN r.uC us ∧ Fit64 r us := by
  have hl := (h.struct Try.underlying24).1
  obtain ⟨f0, h0, w0⟩ := (h.field Try.underlying24 0 rfl (u := 3) (o := 0) (n := 1) (by kernel_rfl) (by kernel_rfl) one64).int Try.underlying3
  obtain ⟨f1, h1, w1⟩ := (h.field Try.underlying24 1 rfl (u := 3) (o := 1) (n := 1) (by kernel_rfl) (by kernel_rfl) one64).int Try.underlying3
  obtain ⟨a2, q2, c2, x2, h2, l2, w2⟩ := rd_ints (h.field Try.underlying24 2 rfl (u := 22) (o := 2) (n := 1) (by kernel_rfl) (by kernel_rfl) oneS)
  obtain ⟨f3, h3, w3⟩ := (h.field Try.underlying24 3 rfl (u := 3) (o := 3) (n := 1) (by kernel_rfl) (by kernel_rfl) one64).int Try.underlying3
  obtain ⟨f4, h4, w4⟩ := (h.field Try.underlying24 4 rfl (u := 3) (o := 4) (n := 1) (by kernel_rfl) (by kernel_rfl) one64).int Try.underlying3
  obtain ⟨f5, h5⟩ := (h.field Try.underlying24 5 rfl (u := 4) (o := 5) (n := 1) (by kernel_rfl) (by kernel_rfl) oneB).bool Try.underlying4
  obtain ⟨f6, h6, w6⟩ := (h.field Try.underlying24 6 rfl (u := 3) (o := 6) (n := 1) (by kernel_rfl) (by kernel_rfl) one64).int Try.underlying3
  obtain ⟨f7, h7, w7⟩ := (h.field Try.underlying24 7 rfl (u := 3) (o := 7) (n := 1) (by kernel_rfl) (by kernel_rfl) one64).int Try.underlying3
  obtain ⟨f8, h8, w8⟩ := (h.field Try.underlying24 8 rfl (u := 3) (o := 8) (n := 1) (by kernel_rfl) (by kernel_rfl) one64).int Try.underlying3
  obtain ⟨f9, h9, w9⟩ := (h.field Try.underlying24 9 rfl (u := 3) (o := 9) (n := 1) (by kernel_rfl) (by kernel_rfl) one64).int Try.underlying3
  obtain ⟨f10, h10, w10⟩ := (h.field Try.underlying24 10 rfl (u := 3) (o := 10) (n := 1) (by kernel_rfl) (by kernel_rfl) one64).int Try.underlying3
  obtain ⟨f11, h11⟩ := (h.field Try.underlying24 11 rfl (u := 4) (o := 11) (n := 1) (by kernel_rfl) (by kernel_rfl) oneB).bool Try.underlying4
  rw [twelve] at hl
  match cs, hl with
  | [x0, x1, y2, x3, x4, x5, x6, x7, x8, x9, x10, x11], _ =>
    simp only [List.drop_zero, List.drop_succ_cons, List.take_succ_cons, List.take_zero] at h0 h1 h2 h3 h4 h5 h6 h7 h8 h9 h10 h11
    injection h0 with h0 _
    injection h1 with h1 _
    injection h2 with h2 _
    injection h3 with h3 _
    injection h4 with h4 _
    injection h5 with h5 _
    injection h6 with h6 _
    injection h7 with h7 _
    injection h8 with h8 _
    injection h9 with h9 _
    injection h10 with h10 _
    injection h11 with h11 _
    exact ⟨⟨f0, f1, a2, q2, c2, f3, f4, f5, f6, f7, f8, f9, f10, f11⟩, x2, by rw [h0, h1, h2, h3, h4, h5, h6, h7, h8, h9, h10, h11], l2, ⟨wf_i64 w0, wf_i64 w1, w2, wf_i64 w3, wf_i64 w4, wf_i64 w6, wf_i64 w7, wf_i64 w8, wf_i64 w9, wf_i64 w10⟩⟩
theorem val_com {w : World} {v : Value} {r : Reach} {base : Nat} (hv : Value.okWide Try.prog w r base 24 v) (h : Rd Try.prog w 24 v.cells.toList) : ∃ (x : Com) (us : List Int), v = .agg #[.int .i64 x.kind, .int .i64 x.ord, .slice x.uA x.uN x.uC, .int .i64 x.rea, .int .i64 x.want, .bool x.cred, .int .i64 x.rma, .int .i64 x.unit, .int .i64 x.grd, .int .i64 x.days, .int .i64 x.key, .bool x.yes] ∧ LiAt w x.uA x.uN x.uC us ∧ Fit64 x us := by
  have e := val_struct hv Try.underlying24
  obtain ⟨x, us, h1, h2, h3⟩ := rd_com h
  refine ⟨x, us, ?_, h2, h3⟩
  rw [e]
  congr 1
  exact Array.toList_inj.1 h1
end Go.Proofs.Ytmaoimjfkncnpaa
