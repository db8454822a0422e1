/-
  The law's Theirs and Ours, package rma's Clone. Conditions: those of each theorem.
-/
import Derived.Test.YtkjkamcjbhhefaaDoorRm
import Derived.Deep.RegionHeld3
namespace Go.Proofs.YtkjkamcjbhhefaaDoor
open Go.RowKit
set_option maxRecDepth 100000

/-- Another place for the lists. -/
def Ret.at2 (r : Ret) (uA : Option Addr) (uC : Nat) (gA : Option Addr) (gC : Nat) : Ret := { r with uA := uA, uC := uC, gA := gA, gC := gC }
/-- A return with lists of its own, at or above B. -/
structure NewRet (w : World) (B : Nat) (r : Ret) (us gs : List Int) : Prop where
  u : NewLi w B r.uA r.uN r.uC us
  g : NewLi w B r.gA r.gN r.gC gs
theorem NewRet.ret {w : World} {B : Nat} {r : Ret} {us gs : List Int} (h : NewRet w B r us gs) : RetAt w r us gs := ⟨h.u.li, h.g.li⟩
theorem NewRet.upd {S : Nat → Prop} {w w' : World} {B : Nat} {r : Ret} {us gs : List Int} (h : NewRet w B r us gs) (hu : Upd S w w') (hn : ∀ g, B ≤ g → g < w.heap.size → ¬ S g) : NewRet w' B r us gs := ⟨h.u.upd hu hn, h.g.upd hu hn⟩
theorem NewRet.below {w w' : World} {B : Nat} {r : Ret} {us gs : List Int} (h : NewRet w B r us gs) (hb : Below w.heap.size w w') : NewRet w' B r us gs := ⟨h.u.below hb, h.g.below hb⟩

set_option maxHeartbeats 1000000 in
theorem law_ours (r : Ret) (w : World) : Calls Tryd.prog 22 #[.agg #[.int .i64 r.num, .int .i64 r.ord, .int .i64 r.rea, .int .i64 r.want, .int .i64 r.res, .bool r.cred, .int .i64 r.st, .int .i64 r.day, .slice r.uA r.uN r.uC, .slice r.gA r.gN r.gC, .int .i64 r.wor, .int .i64 r.pai, .int .i64 r.cre, .int .i64 r.giv]] w fun e w' => e = .returned (.agg #[.int .i64 r.num, .int .i64 r.ord, .int .i64 r.rea, .int .i64 r.want, .int .i64 r.res, .bool r.cred, .int .i64 r.st, .int .i64 r.day, .slice r.uA r.uN r.uC, .slice r.gA r.gN r.gC, .int .i64 r.wor, .int .i64 r.pai, .int .i64 r.cre, .int .i64 r.giv]) ∧ Below w.heap.size w w' := by
  obtain ⟨n0, n1, n2, n3, n4, n5, n6, n7, uA, uN, uC, gA, gN, gC, n10, n11, n12, n13⟩ := r
  dsimp only at *
  have hcs := (RetBox.made w 32 ⟨n0, n1, n2, n3, n4, n5, n6, n7, uA, uN, uC, gA, gN, gC, n10, n11, n12, n13⟩).below (upd_box (.cells #[.int .i64 0, .int .i64 0, .int .i64 0, .int .i64 0, .int .i64 0, .bool false, .int .i64 0, .int .i64 0, .slice none 0 0, .slice none 0 0, .int .i64 0, .int .i64 0, .int .i64 0, .int .i64 0] 34))
  have HC : Aside _ := hcs.at_cells
  have hlt := hcs.lt
  have HH : Aside _ := (RetBox.made (w.alloc (.cells #[.int .i64 n0, .int .i64 n1, .int .i64 n2, .int .i64 n3, .int .i64 n4, .bool n5, .int .i64 n6, .int .i64 n7, .slice uA uN uC, .slice gA gN gC, .int .i64 n10, .int .i64 n11, .int .i64 n12, .int .i64 n13] 32)) 34 ⟨n0, n1, n2, n3, n4, n5, n6, n7, uA, uN, uC, gA, gN, gC, n10, n11, n12, n13⟩).at'
  rw [show (w.alloc (.cells #[.int .i64 n0, .int .i64 n1, .int .i64 n2, .int .i64 n3, .int .i64 n4, .bool n5, .int .i64 n6, .int .i64 n7, .slice uA uN uC, .slice gA gN gC, .int .i64 n10, .int .i64 n11, .int .i64 n12, .int .i64 n13] 32)).heap.size = w.heap.size + 1 by simp] at HH
  clear hcs
  go_enter Tryd.func22, Tryd.ntmps22
  go_wp2_with (first
    | (refine wpList_load_cells rfl 32 _ rfl w.heap.size 0 rfl _ _ HC.out Tryd.underlying32 rfl (by kernel_rfl) ?_)
    | (refine wpList_store_new rfl 34 _ _ rfl _ _ rfl rfl (by kernel_rfl) rfl rfl ?_))
  refine bodyPost_ret (results_cell_row rfl _ _ (w.heap.size + 1) 34 #[.int .i64 n0, .int .i64 n1, .int .i64 n2, .int .i64 n3, .int .i64 n4, .bool n5, .int .i64 n6, .int .i64 n7, .slice uA uN uC, .slice gA gN gC, .int .i64 n10, .int .i64 n11, .int .i64 n12, .int .i64 n13] (0, 0) _ rfl HH.out Tryd.underlying34 rfl info_retO) rfl ?_
  exact ⟨rfl, blw_alloc (upd_box _) _⟩

/-- Three boxes. -/
theorem three_boxes (w : World) (t1 t2 t3 : TypeId) (r1 r2 r3 : Ret) : ∃ W, W = (((w.alloc (.cells #[.int .i64 r1.num, .int .i64 r1.ord, .int .i64 r1.rea, .int .i64 r1.want, .int .i64 r1.res, .bool r1.cred, .int .i64 r1.st, .int .i64 r1.day, .slice r1.uA r1.uN r1.uC, .slice r1.gA r1.gN r1.gC, .int .i64 r1.wor, .int .i64 r1.pai, .int .i64 r1.cre, .int .i64 r1.giv] t1)).alloc (.cells #[.int .i64 r2.num, .int .i64 r2.ord, .int .i64 r2.rea, .int .i64 r2.want, .int .i64 r2.res, .bool r2.cred, .int .i64 r2.st, .int .i64 r2.day, .slice r2.uA r2.uN r2.uC, .slice r2.gA r2.gN r2.gC, .int .i64 r2.wor, .int .i64 r2.pai, .int .i64 r2.cre, .int .i64 r2.giv] t2)).alloc (.cells #[.int .i64 r3.num, .int .i64 r3.ord, .int .i64 r3.rea, .int .i64 r3.want, .int .i64 r3.res, .bool r3.cred, .int .i64 r3.st, .int .i64 r3.day, .slice r3.uA r3.uN r3.uC, .slice r3.gA r3.gN r3.gC, .int .i64 r3.wor, .int .i64 r3.pai, .int .i64 r3.cre, .int .i64 r3.giv] t3)) ∧ W.heap.size = w.heap.size + 3 ∧ Below w.heap.size w W ∧ RetBox W w.heap.size t1 r1 ∧ RetBox W (w.heap.size + 1) t2 r2 ∧ RetBox W (w.heap.size + 2) t3 r3 := by
  refine ⟨_, rfl, by simp, blw_alloc (blw_alloc (upd_box _) _) _, ?_, ?_, ?_⟩
  · exact ((RetBox.made w t1 r1).below (upd_box _)).below (upd_box _)
  · have := (RetBox.made (w.alloc (.cells #[.int .i64 r1.num, .int .i64 r1.ord, .int .i64 r1.rea, .int .i64 r1.want, .int .i64 r1.res, .bool r1.cred, .int .i64 r1.st, .int .i64 r1.day, .slice r1.uA r1.uN r1.uC, .slice r1.gA r1.gN r1.gC, .int .i64 r1.wor, .int .i64 r1.pai, .int .i64 r1.cre, .int .i64 r1.giv] t1)) t2 r2).below (upd_box (.cells #[.int .i64 r3.num, .int .i64 r3.ord, .int .i64 r3.rea, .int .i64 r3.want, .int .i64 r3.res, .bool r3.cred, .int .i64 r3.st, .int .i64 r3.day, .slice r3.uA r3.uN r3.uC, .slice r3.gA r3.gN r3.gC, .int .i64 r3.wor, .int .i64 r3.pai, .int .i64 r3.cre, .int .i64 r3.giv] t3))
    rwa [show (w.alloc (.cells #[.int .i64 r1.num, .int .i64 r1.ord, .int .i64 r1.rea, .int .i64 r1.want, .int .i64 r1.res, .bool r1.cred, .int .i64 r1.st, .int .i64 r1.day, .slice r1.uA r1.uN r1.uC, .slice r1.gA r1.gN r1.gC, .int .i64 r1.wor, .int .i64 r1.pai, .int .i64 r1.cre, .int .i64 r1.giv] t1)).heap.size = w.heap.size + 1 by simp] at this
  · have := RetBox.made ((w.alloc (.cells #[.int .i64 r1.num, .int .i64 r1.ord, .int .i64 r1.rea, .int .i64 r1.want, .int .i64 r1.res, .bool r1.cred, .int .i64 r1.st, .int .i64 r1.day, .slice r1.uA r1.uN r1.uC, .slice r1.gA r1.gN r1.gC, .int .i64 r1.wor, .int .i64 r1.pai, .int .i64 r1.cre, .int .i64 r1.giv] t1)).alloc (.cells #[.int .i64 r2.num, .int .i64 r2.ord, .int .i64 r2.rea, .int .i64 r2.want, .int .i64 r2.res, .bool r2.cred, .int .i64 r2.st, .int .i64 r2.day, .slice r2.uA r2.uN r2.uC, .slice r2.gA r2.gN r2.gC, .int .i64 r2.wor, .int .i64 r2.pai, .int .i64 r2.cre, .int .i64 r2.giv] t2)) t3 r3
    rwa [show ((w.alloc (.cells #[.int .i64 r1.num, .int .i64 r1.ord, .int .i64 r1.rea, .int .i64 r1.want, .int .i64 r1.res, .bool r1.cred, .int .i64 r1.st, .int .i64 r1.day, .slice r1.uA r1.uN r1.uC, .slice r1.gA r1.gN r1.gC, .int .i64 r1.wor, .int .i64 r1.pai, .int .i64 r1.cre, .int .i64 r1.giv] t1)).alloc (.cells #[.int .i64 r2.num, .int .i64 r2.ord, .int .i64 r2.rea, .int .i64 r2.want, .int .i64 r2.res, .bool r2.cred, .int .i64 r2.st, .int .i64 r2.day, .slice r2.uA r2.uN r2.uC, .slice r2.gA r2.gN r2.gC, .int .i64 r2.wor, .int .i64 r2.pai, .int .i64 r2.cre, .int .i64 r2.giv] t2)).heap.size = w.heap.size + 2 by simp] at this
/-- The two lists are stored. -/
def set89 (w : World) (g : Nat) (uA : Option Addr) (uN uC : Nat) (gA : Option Addr) (gN gC : Nat) : World := (w.setCell ⟨g, 8, none⟩ (.slice uA uN uC)).setCell ⟨g, 9, none⟩ (.slice gA gN gC)
theorem set89_upd (w : World) (g : Nat) (uA : Option Addr) (uN uC : Nat) (gA : Option Addr) (gN gC : Nat) : Upd (fun k => k = g) w (set89 w g uA uN uC gA gN gC) := (upd_set _ _).trans (upd_set _ _) (fun _ _ x => x)
theorem set89_at {w : World} {g : Nat} {t : TypeId} {r : Ret} (h : RetBox w g t r) (uA : Option Addr) (uC : Nat) (gA : Option Addr) (gC : Nat) : RetBox (set89 w g uA r.uN uC gA r.gN gC) g t (r.at2 uA uC gA gC) := by
  have g0 := setCell_heap_at (o := 8) (u := .slice uA r.uN uC) h.at'
  have g1 := setCell_heap_at (o := 9) (u := .slice gA r.gN gC) g0
  exact ⟨by simpa [set89, Ret.at2] using g1⟩
theorem set98_at {w : World} {g : Nat} {t : TypeId} {r : Ret} (h : RetBox w g t r) (uA : Option Addr) (uC : Nat) (gA : Option Addr) (gC : Nat) : RetBox ((w.setCell ⟨g, 9, none⟩ (.slice gA r.gN gC)).setCell ⟨g, 8, none⟩ (.slice uA r.uN uC)) g t (r.at2 uA uC gA gC) := by
  have g0 := setCell_heap_at (o := 9) (u := .slice gA r.gN gC) h.at'
  have g1 := setCell_heap_at (o := 8) (u := .slice uA r.uN uC) g0
  exact ⟨by simpa [Ret.at2] using g1⟩
theorem below_chain {a X b : World} (h : Below a.heap.size a X) (l : Below X.heap.size X b) : Below a.heap.size a b := h.trans (l.mono h.size)
theorem upd_gset2 {g : Nat} {w w' : World} (h : Upd (fun k => k = g) w w') {o : Nat} {u : Value} : Upd (fun k => k = g) w (w'.setCell ⟨g, o, none⟩ u) := h.setCell (.inl rfl) u
/-- Fourteen cells are stored. -/
def set14 (w : World) (g : Nat) (r : Ret) : World := (((((((((((((w.setCell ⟨g, 0, none⟩ (.int .i64 r.num)).setCell ⟨g, 1, none⟩ (.int .i64 r.ord)).setCell ⟨g, 2, none⟩ (.int .i64 r.rea)).setCell ⟨g, 3, none⟩ (.int .i64 r.want)).setCell ⟨g, 4, none⟩ (.int .i64 r.res)).setCell ⟨g, 5, none⟩ (.bool r.cred)).setCell ⟨g, 6, none⟩ (.int .i64 r.st)).setCell ⟨g, 7, none⟩ (.int .i64 r.day)).setCell ⟨g, 8, none⟩ (.slice r.uA r.uN r.uC)).setCell ⟨g, 9, none⟩ (.slice r.gA r.gN r.gC)).setCell ⟨g, 10, none⟩ (.int .i64 r.wor)).setCell ⟨g, 11, none⟩ (.int .i64 r.pai)).setCell ⟨g, 12, none⟩ (.int .i64 r.cre)).setCell ⟨g, 13, none⟩ (.int .i64 r.giv)
theorem set14_upd (w : World) (g : Nat) (r : Ret) : Upd (fun k => k = g) w (set14 w g r) := by
  unfold set14
  refine Upd.trans (S' := fun k => k = g) ?_ (upd_set _ _) (fun _ _ x => x)
  refine Upd.trans (S' := fun k => k = g) ?_ (upd_set _ _) (fun _ _ x => x)
  refine Upd.trans (S' := fun k => k = g) ?_ (upd_set _ _) (fun _ _ x => x)
  refine Upd.trans (S' := fun k => k = g) ?_ (upd_set _ _) (fun _ _ x => x)
  refine Upd.trans (S' := fun k => k = g) ?_ (upd_set _ _) (fun _ _ x => x)
  refine Upd.trans (S' := fun k => k = g) ?_ (upd_set _ _) (fun _ _ x => x)
  refine Upd.trans (S' := fun k => k = g) ?_ (upd_set _ _) (fun _ _ x => x)
  refine Upd.trans (S' := fun k => k = g) ?_ (upd_set _ _) (fun _ _ x => x)
  refine Upd.trans (S' := fun k => k = g) ?_ (upd_set _ _) (fun _ _ x => x)
  refine Upd.trans (S' := fun k => k = g) ?_ (upd_set _ _) (fun _ _ x => x)
  refine Upd.trans (S' := fun k => k = g) ?_ (upd_set _ _) (fun _ _ x => x)
  refine Upd.trans (S' := fun k => k = g) ?_ (upd_set _ _) (fun _ _ x => x)
  refine Upd.trans (S' := fun k => k = g) ?_ (upd_set _ _) (fun _ _ x => x)
  exact upd_set _ _
theorem set14_at {w : World} {g : Nat} {t : TypeId} {x : Ret} (h : RetBox w g t x) (r : Ret) : RetBox (set14 w g r) g t r := by
  have g0 := setCell_heap_at (o := 0) (u := .int .i64 r.num) h.at'
  have g1 := setCell_heap_at (o := 1) (u := .int .i64 r.ord) g0
  have g2 := setCell_heap_at (o := 2) (u := .int .i64 r.rea) g1
  have g3 := setCell_heap_at (o := 3) (u := .int .i64 r.want) g2
  have g4 := setCell_heap_at (o := 4) (u := .int .i64 r.res) g3
  have g5 := setCell_heap_at (o := 5) (u := .bool r.cred) g4
  have g6 := setCell_heap_at (o := 6) (u := .int .i64 r.st) g5
  have g7 := setCell_heap_at (o := 7) (u := .int .i64 r.day) g6
  have g8 := setCell_heap_at (o := 8) (u := .slice r.uA r.uN r.uC) g7
  have g9 := setCell_heap_at (o := 9) (u := .slice r.gA r.gN r.gC) g8
  have g10 := setCell_heap_at (o := 10) (u := .int .i64 r.wor) g9
  have g11 := setCell_heap_at (o := 11) (u := .int .i64 r.pai) g10
  have g12 := setCell_heap_at (o := 12) (u := .int .i64 r.cre) g11
  have g13 := setCell_heap_at (o := 13) (u := .int .i64 r.giv) g12
  exact ⟨by simpa [set14] using g13⟩

set_option maxHeartbeats 4000000 in
theorem law_theirs (r : Ret) (us gs : List Int) (w : World) (h : RetAt w r us gs) (hu : r.uN ≤ 1000) (hg : r.gN ≤ 1000) :
    Calls Tryd.prog 14 #[.agg #[.int .i64 r.num, .int .i64 r.ord, .int .i64 r.rea, .int .i64 r.want, .int .i64 r.res, .bool r.cred, .int .i64 r.st, .int .i64 r.day, .slice r.uA r.uN r.uC, .slice r.gA r.gN r.gC, .int .i64 r.wor, .int .i64 r.pai, .int .i64 r.cre, .int .i64 r.giv]] w fun e w' => (∃ uA uC gA gC, e = .returned (.agg #[.int .i64 (r.at2 uA uC gA gC).num, .int .i64 (r.at2 uA uC gA gC).ord, .int .i64 (r.at2 uA uC gA gC).rea, .int .i64 (r.at2 uA uC gA gC).want, .int .i64 (r.at2 uA uC gA gC).res, .bool (r.at2 uA uC gA gC).cred, .int .i64 (r.at2 uA uC gA gC).st, .int .i64 (r.at2 uA uC gA gC).day, .slice (r.at2 uA uC gA gC).uA (r.at2 uA uC gA gC).uN (r.at2 uA uC gA gC).uC, .slice (r.at2 uA uC gA gC).gA (r.at2 uA uC gA gC).gN (r.at2 uA uC gA gC).gC, .int .i64 (r.at2 uA uC gA gC).wor, .int .i64 (r.at2 uA uC gA gC).pai, .int .i64 (r.at2 uA uC gA gC).cre, .int .i64 (r.at2 uA uC gA gC).giv]) ∧ NewRet w' w.heap.size (r.at2 uA uC gA gC) us gs) ∧ Below w.heap.size w w' := by
  obtain ⟨n0, n1, n2, n3, n4, n5, n6, n7, uA, uN, uC, gA, gN, gC, n10, n11, n12, n13⟩ := r
  have H : Aside _ := h
  clear h
  dsimp only at *
  obtain ⟨W, hW, hs3, hb3, X1, X2, X3⟩ := three_boxes w 34 32 32 ⟨n0, n1, n2, n3, n4, n5, n6, n7, uA, uN, uC, gA, gN, gC, n10, n11, n12, n13⟩ ret0 ⟨n0, n1, n2, n3, n4, n5, n6, n7, uA, uN, uC, gA, gN, gC, n10, n11, n12, n13⟩
  have hcs := (RetBox.made w 34 ⟨n0, n1, n2, n3, n4, n5, n6, n7, uA, uN, uC, gA, gN, gC, n10, n11, n12, n13⟩).below (upd_box (.cells #[.int .i64 0, .int .i64 0, .int .i64 0, .int .i64 0, .int .i64 0, .bool false, .int .i64 0, .int .i64 0, .slice none 0 0, .slice none 0 0, .int .i64 0, .int .i64 0, .int .i64 0, .int .i64 0] 32))
  have HC : Aside _ := hcs.at_cells
  clear hcs
  go_enter Tryd.func14, Tryd.ntmps14
  go_upto_region 2 with (first
    | (refine wpList_load_cells rfl 34 _ rfl w.heap.size 0 rfl _ _ HC.out Tryd.underlying34 rfl (by kernel_rfl) ?_)
    | (refine wpList_store_new rfl 32 _ _ rfl _ _ rfl rfl (by kernel_rfl) rfl rfl ?_))
  unfold ret0 at hW
  dsimp only at hW
  rw [← hW]
  obtain ⟨g3, hg3⟩ : ∃ g, g = w.heap.size + 1 + 1 := ⟨_, rfl⟩
  have X3' : RetBox W g3 32 ⟨n0, n1, n2, n3, n4, n5, n6, n7, uA, uN, uC, gA, gN, gC, n10, n11, n12, n13⟩ := by rw [hg3]; exact X3
  rw [← hg3]
  obtain ⟨g2, hg2⟩ : ∃ g, g = w.heap.size + 1 := ⟨_, rfl⟩
  have X2' : RetBox W g2 32 ret0 := by rw [hg2]; exact X2
  rw [← hg2]
  obtain ⟨g1, hg1⟩ : ∃ g, g = w.heap.size := ⟨_, rfl⟩
  have X1' : RetBox W g1 34 ⟨n0, n1, n2, n3, n4, n5, n6, n7, uA, uN, uC, gA, gN, gC, n10, n11, n12, n13⟩ := by rw [hg1]; exact X1
  rw [← hg1]
  have hne : ¬ g1 = g3 := by omega
  have hne2 : ¬ g2 = g3 := by omega
  have HLO : Hid (w.heap.size ≤ g1 ∧ w.heap.size ≤ g2 ∧ w.heap.size ≤ g3 ∧ w.heap.size ≤ W.heap.size ∧ g2 < W.heap.size ∧ g3 < W.heap.size) := ⟨by omega, by omega, by omega, by omega, by omega, by omega⟩
  obtain ⟨-, -, -, -, -, -, -, -, y8, y9, -⟩ := X1'.cells
  have hgl := X1'.lt
  have HX3 : Aside _ := X3'
  have HX2 : Aside _ := X2'
  have HB3 : Aside (Below w.heap.size w W) := hb3
  have HW : Aside _ := H.out.below hb3
  have HU1 := Lib.hid HW.out.u.len
  have HU2 : Aside (IsInts W uA us) := HW.out.u.at'
  have HU3 : Hid (uA = none → uC = 0) := HW.out.u.nil
  have HG1 := Lib.hid HW.out.g.len
  have HG2 : Aside (IsInts W gA gs) := HW.out.g.at'
  have HG3 : Hid (gA = none → gC = 0) := HW.out.g.nil
  have u0 := Upd.refl (fun q => q = g3) W
  have b0 := Below.refl W.heap.size W
  clear hW hs3 hb3 X1 X2 X3 X1' X2' X3' HC H hg1 hg2 hg3
  have hu6 : uN ≤ 1000000 := by omega
  have hg6 : gN ≤ 1000000 := by omega
  go_region_held3 (fun w' => Upd (fun q => q = g3) W w' ∧ w'.cell? ⟨g1, 8, none⟩ = some (.slice uA uN uC) ∧ w'.cell? ⟨g1, 9, none⟩ = some (.slice gA gN gC))
    (refine ⟨?_, (Upd.cell (S := fun q => q = g3) (w := W) (p := ⟨g1, 8, none⟩) ?_ hgl hne).trans y8, (Upd.cell (S := fun q => q = g3) (w := W) (p := ⟨g1, 9, none⟩) ?_ hgl hne).trans y9⟩ <;> (with_reducible (repeat (first | assumption | refine upd_gset2 ?_ | refine Upd.drew ?_ | refine Upd.alloc ?_ _))))
    ((first
      | (refine step_append_zero (w0 := W) (by rfl) _ _ (by rfl) ⟨_, _, by rfl⟩ uA uN uC (by rfl) us HU1.out HU2.out HU3.out hu6 ?_ ?_; (with_reducible (repeat (first | assumption | refine Below.drew ?_ | refine blw_alloc ?_ _))); intro a8 c8 w8 N8 b8 l8; have u8 : Upd (fun q => q = g3) W w8 := Upd.below b8; have X8 := HX3.out.below b8; obtain ⟨-, -, -, -, -, -, -, -, z8, z9, -⟩ := X8.cells; have zf := X8.fz)
      | (refine step_append_zero (w0 := W) (by rfl) _ _ (by rfl) ⟨_, _, by rfl⟩ gA gN gC (by rfl) gs HG1.out HG2.out HG3.out hg6 ?_ ?_; (with_reducible (repeat (first | assumption | refine Below.drew ?_ | refine blw_alloc ?_ _))); intro a9 c9 w9 N9 b9 l9; have u9 : Upd (fun q => q = g3) W w9 := Upd.below b9; have X9 := HX3.out.below b9; obtain ⟨-, -, -, -, -, -, -, -, v8, v9, -⟩ := X9.cells; have vf := X9.fz)))
  all_goals
    have N89 : NewLi w9 W.heap.size a8 uN c8 us := N8.below (below_chain (by repeat (first | exact Below.refl _ _ | refine Below.drew ?_ | refine blw_alloc ?_ _)) l9)
    have HV3 : Aside (RetBox ((w9.setCell ⟨g3, 8, none⟩ (.slice a8 uN c8)).setCell ⟨g3, 9, none⟩ (.slice a9 gN c9)) g3 32 ⟨n0, n1, n2, n3, n4, n5, n6, n7, a8, uN, c8, a9, gN, c9, n10, n11, n12, n13⟩) := set89_at X9 a8 c8 a9 c9
    have hu : Upd (fun k => k = g3) w9 ((w9.setCell ⟨g3, 8, none⟩ (.slice a8 uN c8)).setCell ⟨g3, 9, none⟩ (.slice a9 gN c9)) := set89_upd w9 g3 a8 uN c8 a9 gN c9
    have HV2 : Aside (RetBox ((w9.setCell ⟨g3, 8, none⟩ (.slice a8 uN c8)).setCell ⟨g3, 9, none⟩ (.slice a9 gN c9)) g2 32 ret0) := (HX2.out.below b9).upd hu hne2
    have HN8 : Aside (NewLi ((w9.setCell ⟨g3, 8, none⟩ (.slice a8 uN c8)).setCell ⟨g3, 9, none⟩ (.slice a9 gN c9)) W.heap.size a8 uN c8 us) := N89.upd hu (fun g h1 _ e => by have := HLO.out; omega)
    have HN9 : Aside (NewLi ((w9.setCell ⟨g3, 8, none⟩ (.slice a8 uN c8)).setCell ⟨g3, 9, none⟩ (.slice a9 gN c9)) W.heap.size a9 gN c9 gs) := N9.upd hu (fun g h1 _ e => by have := HLO.out; omega)
    have HBV : Aside (Below w.heap.size w ((w9.setCell ⟨g3, 8, none⟩ (.slice a8 uN c8)).setCell ⟨g3, 9, none⟩ (.slice a9 gN c9))) := (HB3.out.trans (b9.mono HB3.out.size)).trans (hu.toBelow (by have := HB3.out.size; have := b9.size; omega) (fun k hk e => by have := HLO.out; omega))
    clear N8 N9 N89 b8 b9 l8 l9 u8 u9 X8 X9 z8 z9 zf v8 v9 vf hu u0 b0 y8 y9 HX3 HX2 HB3 HW
    generalize ((w9.setCell ⟨g3, 8, none⟩ (.slice a8 uN c8)).setCell ⟨g3, 9, none⟩ (.slice a9 gN c9)) = V at *
    have HCV : Aside (∀ j v, (#[.int .i64 n0, .int .i64 n1, .int .i64 n2, .int .i64 n3, .int .i64 n4, .bool n5, .int .i64 n6, .int .i64 n7, .slice a8 uN c8, .slice a9 gN c9, .int .i64 n10, .int .i64 n11, .int .i64 n12, .int .i64 n13] : Array Value)[j]? = some v → V.cell? ⟨g3, 0 + j, none⟩ = some v) := HV3.out.at_cells
    obtain ⟨y0, y1, y2, y3, y4, y5, y6, y7, y8, y9, y10, y11, y12, y13⟩ := HV2.out.cells
    have yf := HV2.out.fz
    have HF : Aside _ := set14_at HV2.out ⟨n0, n1, n2, n3, n4, n5, n6, n7, a8, uN, c8, a9, gN, c9, n10, n11, n12, n13⟩
    have HFU : Aside _ := set14_upd V g2 ⟨n0, n1, n2, n3, n4, n5, n6, n7, a8, uN, c8, a9, gN, c9, n10, n11, n12, n13⟩
    unfold set14 at HF HFU
    dsimp only at HF HFU
    clear HV2 HV3
    go_wp2_with (refine wpList_load_cells rfl 32 _ rfl g3 0 rfl _ _ HCV.out Tryd.underlying32 rfl (by kernel_rfl) ?_)
    refine bodyPost_ret (results_cell_row rfl _ _ g2 32 #[.int .i64 n0, .int .i64 n1, .int .i64 n2, .int .i64 n3, .int .i64 n4, .bool n5, .int .i64 n6, .int .i64 n7, .slice a8 uN c8, .slice a9 gN c9, .int .i64 n10, .int .i64 n11, .int .i64 n12, .int .i64 n13] (0, 0) _ rfl HF.out.at' Tryd.underlying32 rfl info_ret) rfl ?_
    exact ⟨⟨a8, c8, a9, c9, rfl, ⟨(HN8.out.upd HFU.out (fun g h1 _ e => by have := HLO.out; omega)).lower HLO.out.2.2.2.1, (HN9.out.upd HFU.out (fun g h1 _ e => by have := HLO.out; omega)).lower HLO.out.2.2.2.1⟩⟩, HBV.out.trans (HFU.out.toBelow HBV.out.size (fun k hk e => by have := HLO.out; omega))⟩
end Go.Proofs.YtkjkamcjbhhefaaDoor
