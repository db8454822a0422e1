/-
  A stock, and the document's units beside it; what is stored of the document's units. Conditions: those of each theorem.
-/
import Derived.Test.YtakdodcdgmbhaaaStkRef
import Derived.Test.YtakdodcdgmbhaaaStkPick
namespace Go.Proofs.Ytakdodcdgmbhaaa
open Go.RowKit
set_option maxRecDepth 100000

structure Sides (w W : World) (p G H n : Nat) (a : Option Addr) (u v : Nat → Itm) : Prop where
  below : Below w.heap.size w W
  stk : StockAt W p G n u
  ref : RefAt W a H n v
  geG : w.heap.size ≤ G
  geH : w.heap.size ≤ H
  ne : p ≠ H
  neG : 0 < n → G ≠ H
section
variable {w W W' : World} {p G H n : Nat} {a : Option Addr} {u v u' v' : Nat → Itm}
theorem Sides.more (h : Sides w W p G H n a u v) (hb : Below W.heap.size W W') : Sides w W' p G H n a u v :=
  ⟨h.below.trans (hb.mono h.below.size), h.stk.below hb, h.ref.below hb, h.geG, h.geH, h.ne, h.neG⟩
theorem Sides.stkTo (h : Sides w W p G H n a u v) (hs : StockAt W' p G n u') (hu : Upd (fun b => b = G) W W') : Sides w W' p G H n a u' v :=
  ⟨(Upd.trans (S := fun k => w.heap.size ≤ k) (Upd.below h.below) hu (fun j _ e => by rw [e]; exact h.geG)).toBelow (Nat.le_refl _) (fun j hj x => by omega), hs, h.ref.upd hu (fun h0 e => h.neG h0 e.symm), h.geG, h.geH, h.ne, h.neG⟩
theorem Sides.refTo (h : Sides w W p G H n a u v) (hr : RefAt W' a H n v') (hu : Upd (fun b => b = H) W W') : Sides w W' p G H n a u v' :=
  ⟨(Upd.trans (S := fun k => w.heap.size ≤ k) (Upd.below h.below) hu (fun j _ e => by rw [e]; exact h.geH)).toBelow (Nat.le_refl _) (fun j hj x => by omega), h.stk.upd hu h.ne h.neG, hr, h.geG, h.geH, h.ne, h.neG⟩
theorem RefAt.reads (h : RefAt W a H n v) {k : Nat} (hk : k < n) : W.cell? ⟨H, k * 4, none⟩ = some (.int .i64 (v k).place) ∧ W.cell? ⟨H, k * 4 + 1, none⟩ = some (.int .i64 (v k).sku) ∧ W.cell? ⟨H, k * 4 + 2, none⟩ = some (.bool (v k).rcv) ∧ W.cell? ⟨H, k * 4 + 3, none⟩ = some (.bool (v k).grd) := by
  have hr := ((h.row (by omega)).row k hk).cells
  exact ⟨hr 0 _ rfl, hr 1 _ rfl, hr 2 _ rfl, hr 3 _ rfl⟩
theorem RefAt.to {x : Itm} (h : RefAt W a H n v) {k : Nat} (hs : W.heap.size ≤ W'.heap.size) (hc : ∀ o, (o < k * 4 ∨ k * 4 + 4 ≤ o) → W'.cell? ⟨H, o, none⟩ = W.cell? ⟨H, o, none⟩) (hx : ∀ j y, x.rarr[j]? = some y → W'.cell? ⟨H, k * 4 + j, none⟩ = some y) (hz : ∀ j, W'.frozen? ⟨H, j, none⟩ = W.frozen? ⟨H, j, none⟩) : RefAt W' a H n (putAt v k x) := by
  refine ⟨h.at_, fun h0 => ?_⟩
  have hr := (h.row h0).put (fun i => rfl) k x.rarr hs hc hx hz
  refine ⟨hr.lt, fun i hi => ?_, hr.fz⟩
  have := hr.row i hi
  unfold putAt
  by_cases e : i = k
  · simpa [e] using this
  · simpa [e] using this
/-- The unit's place alone is stored. -/
theorem RefAt.placeTo (h : RefAt W a H n v) {k : Nat} (hk : k < n) (z : Int) : RefAt (W.setCell ⟨H, k * 4, none⟩ (.int .i64 z)) a H n (putAt v k ⟨(v k).sku, z, (v k).rcv, (v k).grd⟩) ∧ Upd (fun b => b = H) W (W.setCell ⟨H, k * 4, none⟩ (.int .i64 z)) := by
  obtain ⟨c0, c1, c2, c3⟩ := h.reads hk
  refine ⟨h.to (by rw [setCell_size]; exact Nat.le_refl _) (fun o ho => cell_other (by omega)) (fun j y hj => ?_) (fun j => by rw [World.frozen?_setCell]), upd_set _ _⟩
  match j, hj with
  | 0, hj =>
    rw [Nat.add_zero, cell_same c0]
    exact hj
  | 1, hj =>
    rw [cell_other (by omega), c1]
    exact hj
  | 2, hj =>
    rw [cell_other (by omega), c2]
    exact hj
  | 3, hj =>
    rw [cell_other (by omega), c3]
    exact hj
  | j + 4, hj => simp [Itm.rarr] at hj
/-- The whole unit is stored. -/
theorem RefAt.unitTo (h : RefAt W a H n v) {k : Nat} (hk : k < n) (x : Itm) : RefAt (W.setCells H (k * 4) x.rarr.toList) a H n (putAt v k x) ∧ Upd (fun b => b = H) W (W.setCells H (k * 4) x.rarr.toList) := by
  have hu := upd_setCells H x.rarr.toList (k * 4) W
  obtain ⟨c0, c1, c2, c3⟩ := h.reads hk
  refine ⟨h.to hu.size (fun o ho => ?_) (fun j y hj => ?_) (fun j => World.frozen?_setCells _ _ _ _ _), hu⟩
  · rw [World.cell?_setCells_out H _ _ W ⟨H, o, none⟩ (fun _ _ => by show o < k * 4 ∨ k * 4 + x.rarr.toList.length ≤ o; exact ho)]
  · have hr := World.rangeAt_setCells_same W H (k * 4) x.rarr.toList (fun i hi => ⟨by
      match i, hi with
      | 0, _ => rw [Nat.add_zero, c0]; rfl
      | 1, _ => rw [c1]; rfl
      | 2, _ => rw [c2]; rfl
      | 3, _ => rw [c3]; rfl, (h.row (by omega)).fz _⟩)
    exact hr j y (by simpa using hj)
end
/-- A box that was made ahead of a call has what it had. -/
theorem box_first {w5 w9 : World} {t : TypeId} (b : Below (w5.alloc (.cells #[.int .i64 0, .int .i64 0, .bool false, .bool false] t)).drew.heap.size (w5.alloc (.cells #[.int .i64 0, .int .i64 0, .bool false, .bool false] t)).drew w9) :
    w9.cell? ⟨w5.heap.size, 0, none⟩ = some (.int .i64 0) ∧ w9.cell? ⟨w5.heap.size, 1, none⟩ = some (.int .i64 0) ∧ w9.cell? ⟨w5.heap.size, 2, none⟩ = some (.bool false) ∧ w9.cell? ⟨w5.heap.size, 3, none⟩ = some (.bool false) ∧
    w9.frozen? ⟨w5.heap.size, 0, none⟩ = false ∧ w9.frozen? ⟨w5.heap.size, 1, none⟩ = false ∧ w9.frozen? ⟨w5.heap.size, 2, none⟩ = false ∧ w9.frozen? ⟨w5.heap.size, 3, none⟩ = false := by
  have hl : w5.heap.size < (w5.alloc (.cells #[.int .i64 0, .int .i64 0, .bool false, .bool false] t)).heap.size := by simp
  have hc : ∀ j, w9.cell? ⟨w5.heap.size, j, none⟩ = (#[.int .i64 0, .int .i64 0, .bool false, .bool false] : Array Value)[j]? := fun j => (b.cell (p := ⟨w5.heap.size, j, none⟩) hl).trans (World.cell?_alloc_new w5 _ t j)
  have hz : ∀ j, w9.frozen? ⟨w5.heap.size, j, none⟩ = false := fun j => (b.frozen (p := ⟨w5.heap.size, j, none⟩) hl).trans (by
    have h : (w5.alloc (.cells #[.int .i64 0, .int .i64 0, .bool false, .bool false] t)).heap[w5.heap.size]? = _ := heap_alloc_new w5 _
    show (w5.alloc (.cells #[.int .i64 0, .int .i64 0, .bool false, .bool false] t)).frozen? ⟨w5.heap.size, j, none⟩ = false
    unfold World.frozen?
    rw [h]; simp)
  exact ⟨hc 0, hc 1, hc 2, hc 3, hz 0, hz 1, hz 2, hz 3⟩
theorem box_alloc {w5 w9 : World} (u9 : Upd (fun _ => False) w5 w9) (X : Array Value) (t : TypeId) : Below w5.heap.size w5 (w9.alloc (.cells X t)) ∧ ArrAt (w9.alloc (.cells X t)) w9.heap.size 0 X :=
  ⟨(u9.alloc _).toBelow (Nat.le_refl _) (fun _ _ h => h), arr_new w9 X t⟩
theorem box_stored {w5 w9 : World} (u9 : Upd (fun _ => False) w5 w9) {B : Nat} (hB : w5.heap.size ≤ B) {m0 m1 m2 m3 : Value} (c0 : w9.cell? ⟨B, 0, none⟩ = some m0) (c1 : w9.cell? ⟨B, 1, none⟩ = some m1) (c2 : w9.cell? ⟨B, 2, none⟩ = some m2) (c3 : w9.cell? ⟨B, 3, none⟩ = some m3) (a b c d : Value) :
    Below w5.heap.size w5 ((((w9.setCell ⟨B, 0, none⟩ a).setCell ⟨B, 1, none⟩ b).setCell ⟨B, 2, none⟩ c).setCell ⟨B, 3, none⟩ d) ∧ ArrAt ((((w9.setCell ⟨B, 0, none⟩ a).setCell ⟨B, 1, none⟩ b).setCell ⟨B, 2, none⟩ c).setCell ⟨B, 3, none⟩ d) B 0 #[a, b, c, d] := by
  refine ⟨((((u9.setCell (.inr hB) _).setCell (.inr hB) _).setCell (.inr hB) _).setCell (.inr hB) _).toBelow (Nat.le_refl _) (fun _ _ h => h), by rw [setCell_size, setCell_size, setCell_size, setCell_size]; exact World.block_lt_of_cell? _ _ c0, fun j v hj => ?_⟩
  rw [Nat.zero_add]
  match j, hj with
  | 0, hj =>
    rw [cell_other (by omega), cell_other (by omega), cell_other (by omega), cell_same c0]
    exact hj
  | 1, hj =>
    rw [cell_other (by omega), cell_other (by omega), cell_same (by rw [cell_other (by omega)]; exact c1)]
    exact hj
  | 2, hj =>
    rw [cell_other (by omega), cell_same (by rw [cell_other (by omega), cell_other (by omega)]; exact c2)]
    exact hj
  | 3, hj =>
    rw [cell_same (by rw [cell_other (by omega), cell_other (by omega), cell_other (by omega)]; exact c3)]
    exact hj
  | j + 4, hj => simp at hj
theorem putAt_moveU (u : Nat → Itm) (k : Nat) (z : Int) : putAt u k (moveU u k z k) = moveU u k z := by
  unfold moveU
  cases hm : mayB (u k).place z
  · funext i
    by_cases e : i = k
    · subst e; simp [putAt]
    · simp [putAt, e]
  · funext i
    by_cases e : i = k
    · subst e; simp [putAt]
    · simp [putAt, e]
theorem may_place {f t : Int} (h : mayB f t = true) : 0 ≤ t ∧ t ≤ 8 := by
  unfold mayB at h
  by_cases f0 : f = 0
  · rw [if_pos f0] at h; have := of_decide_eq_true h; omega
  rw [if_neg f0] at h
  by_cases f1 : f = 1
  · rw [if_pos f1] at h; have := of_decide_eq_true h; omega
  rw [if_neg f1] at h
  by_cases f2 : f = 2
  · rw [if_pos f2] at h; have := of_decide_eq_true h; omega
  rw [if_neg f2] at h
  by_cases f3 : f = 3
  · rw [if_pos f3] at h; have := of_decide_eq_true h; omega
  rw [if_neg f3] at h
  by_cases f7 : f = 7
  · rw [if_pos f7] at h; have := of_decide_eq_true h; omega
  rw [if_neg f7] at h
  by_cases f8 : f = 8
  · rw [if_pos f8] at h; have := of_decide_eq_true h; omega
  rw [if_neg f8] at h
  cases h
/-- All places are places. -/
def Places9 (n : Nat) (u : Nat → Itm) : Prop := ∀ k, k < n → 0 ≤ (u k).place ∧ (u k).place ≤ 8
theorem places_put {n : Nat} {u : Nat → Itm} (h : Places9 n u) (k : Nat) {x : Itm} (hx : 0 ≤ x.place ∧ x.place ≤ 8) : Places9 n (putAt u k x) := fun i hi => by
  unfold putAt
  split
  · exact hx
  · exact h i hi
theorem places_move {n : Nat} {u : Nat → Itm} (h : Places9 n u) (k : Nat) (z : Int) : Places9 n (moveU u k z) := by
  unfold moveU
  cases hm : mayB (u k).place z
  · exact h
  · exact places_put h k (may_place hm)
theorem moved_seven {x : Itm} (h : x.place = 3) : x.moved 7 = ⟨x.sku, 7, x.rcv, x.grd⟩ := by
  obtain ⟨s, p, r, g⟩ := x
  obtain rfl : p = 3 := h
  simp [Itm.moved]
end Go.Proofs.Ytakdodcdgmbhaaa
