/-
  Package rma: Clone. Conditions: those of each theorem.
-/
import Derived.Test.YtkjkamcjbhhefaaDoorRmCopy
namespace Go.Proofs.YtkjkamcjbhhefaaDoor
open Go.RowKit
set_option maxRecDepth 100000

/-- Two boxes. -/
theorem two_rboxes (w : World) (t1 t2 : TypeId) (r1 r2 : Ret) : ∃ W, W = ((w.alloc (.cells #[.int .i64 r1.num, .int .i64 r1.ord, .int .i64 r1.rea, .int .i64 r1.want, .int .i64 r1.res, .bool r1.cred, .int .i64 r1.st, .int .i64 r1.day, .slice r1.uA r1.uN r1.uC, .slice r1.gA r1.gN r1.gC, .int .i64 r1.wor, .int .i64 r1.pai, .int .i64 r1.cre, .int .i64 r1.giv] t1)).alloc (.cells #[.int .i64 r2.num, .int .i64 r2.ord, .int .i64 r2.rea, .int .i64 r2.want, .int .i64 r2.res, .bool r2.cred, .int .i64 r2.st, .int .i64 r2.day, .slice r2.uA r2.uN r2.uC, .slice r2.gA r2.gN r2.gC, .int .i64 r2.wor, .int .i64 r2.pai, .int .i64 r2.cre, .int .i64 r2.giv] t2)) ∧ W.heap.size = w.heap.size + 2 ∧ Below w.heap.size w W ∧ RetBox W w.heap.size t1 r1 ∧ RetBox W (w.heap.size + 1) t2 r2 := by
  refine ⟨_, rfl, by simp, blw_alloc (upd_box _) _, ?_, ?_⟩
  · exact (RetBox.made w t1 r1).below (upd_box _)
  · have := RetBox.made (w.alloc (.cells #[.int .i64 r1.num, .int .i64 r1.ord, .int .i64 r1.rea, .int .i64 r1.want, .int .i64 r1.res, .bool r1.cred, .int .i64 r1.st, .int .i64 r1.day, .slice r1.uA r1.uN r1.uC, .slice r1.gA r1.gN r1.gC, .int .i64 r1.wor, .int .i64 r1.pai, .int .i64 r1.cre, .int .i64 r1.giv] t1)) t2 r2
    rwa [show (w.alloc (.cells #[.int .i64 r1.num, .int .i64 r1.ord, .int .i64 r1.rea, .int .i64 r1.want, .int .i64 r1.res, .bool r1.cred, .int .i64 r1.st, .int .i64 r1.day, .slice r1.uA r1.uN r1.uC, .slice r1.gA r1.gN r1.gC, .int .i64 r1.wor, .int .i64 r1.pai, .int .i64 r1.cre, .int .i64 r1.giv] t1)).heap.size = w.heap.size + 1 by simp] at this

set_option maxHeartbeats 4000000 in
theorem rma_clone (r : Ret) (us gs : List Int) (w : World) (h : RetAt w r us gs) (hu : r.uN ≤ 1000) (hg : r.gN ≤ 1000) :
    Calls Tryd.prog 30 #[.agg #[.int .i64 r.num, .int .i64 r.ord, .int .i64 r.rea, .int .i64 r.want, .int .i64 r.res, .bool r.cred, .int .i64 r.st, .int .i64 r.day, .slice r.uA r.uN r.uC, .slice r.gA r.gN r.gC, .int .i64 r.wor, .int .i64 r.pai, .int .i64 r.cre, .int .i64 r.giv]] w fun e w' => (∃ uA uC gA gC, e = .returned (.agg #[.int .i64 (r.at2 uA uC gA gC).num, .int .i64 (r.at2 uA uC gA gC).ord, .int .i64 (r.at2 uA uC gA gC).rea, .int .i64 (r.at2 uA uC gA gC).want, .int .i64 (r.at2 uA uC gA gC).res, .bool (r.at2 uA uC gA gC).cred, .int .i64 (r.at2 uA uC gA gC).st, .int .i64 (r.at2 uA uC gA gC).day, .slice (r.at2 uA uC gA gC).uA (r.at2 uA uC gA gC).uN (r.at2 uA uC gA gC).uC, .slice (r.at2 uA uC gA gC).gA (r.at2 uA uC gA gC).gN (r.at2 uA uC gA gC).gC, .int .i64 (r.at2 uA uC gA gC).wor, .int .i64 (r.at2 uA uC gA gC).pai, .int .i64 (r.at2 uA uC gA gC).cre, .int .i64 (r.at2 uA uC gA gC).giv]) ∧ NewRet w' w.heap.size (r.at2 uA uC gA gC) us gs) ∧ Below w.heap.size w w' := by
  obtain ⟨n0, n1, n2, n3, n4, n5, n6, n7, uA, uN, uC, gA, gN, gC, n10, n11, n12, n13⟩ := r
  have H : Aside _ := h
  clear h
  dsimp only at *
  obtain ⟨W, hW, hs3, hb3, X1, X2⟩ := two_rboxes w 32 32 ⟨n0, n1, n2, n3, n4, n5, n6, n7, uA, uN, uC, gA, gN, gC, n10, n11, n12, n13⟩ ret0
  go_enter Tryd.func30, Tryd.ntmps30
  go_upto_region 1 with (fail)
  unfold ret0 at hW
  dsimp only at hW
  rw [← hW]
  obtain ⟨g2, hg2⟩ : ∃ g, g = w.heap.size + 1 := ⟨_, rfl⟩
  have X2' : RetBox W g2 32 ret0 := by rw [hg2]; exact X2
  rw [← hg2]
  obtain ⟨g1, hg1⟩ : ∃ g, g = w.heap.size := ⟨_, rfl⟩
  have X1' : RetBox W g1 32 ⟨n0, n1, n2, n3, n4, n5, n6, n7, uA, uN, uC, gA, gN, gC, n10, n11, n12, n13⟩ := by rw [hg1]; exact X1
  rw [← hg1]
  have hne2 : ¬ g2 = g1 := by omega
  have HLO : Hid (w.heap.size ≤ g1 ∧ w.heap.size ≤ g2 ∧ w.heap.size ≤ W.heap.size ∧ g1 < W.heap.size ∧ g2 < W.heap.size) := ⟨by omega, by omega, by omega, by omega, by omega⟩
  obtain ⟨-, -, -, -, -, -, -, -, y8, y9, -⟩ := X1'.cells
  have yf := X1'.fz
  have hgl := X1'.lt
  have HX1 : Aside _ := X1'
  have HX2 : Aside _ := X2'
  have HB3 : Aside (Below w.heap.size w W) := hb3
  have HW : Aside _ := H.out.below hb3
  have HCU : Aside (∀ X, Below W.heap.size W X → Calls Tryd.prog 48 #[.slice uA uN uC] X fun e w' => ∃ a' c', e = .returned (.slice a' uN c') ∧ NewLi w' W.heap.size a' uN c' us ∧ Below W.heap.size W w' ∧ Below X.heap.size X w') := fun X hX => by
    refine (slices_clone (HW.out.u.below hX) (by show uN ≤ _; omega)).mono ?_
    rintro e w' ⟨⟨a', c', rfl, hn⟩, hb⟩
    exact ⟨a', c', rfl, hn.lower hX.size, hX.trans (hb.mono hX.size), hb⟩
  have HCG : Aside (∀ X, Below W.heap.size W X → Calls Tryd.prog 48 #[.slice gA gN gC] X fun e w' => ∃ a' c', e = .returned (.slice a' gN c') ∧ NewLi w' W.heap.size a' gN c' gs ∧ Below W.heap.size W w' ∧ Below X.heap.size X w') := fun X hX => by
    refine (slices_clone (HW.out.g.below hX) (by show gN ≤ _; omega)).mono ?_
    rintro e w' ⟨⟨a', c', rfl, hn⟩, hb⟩
    exact ⟨a', c', rfl, hn.lower hX.size, hX.trans (hb.mono hX.size), hb⟩
  have b0 := Below.refl W.heap.size W
  clear hW hs3 hb3 X1 X2 X1' X2' H hg1 hg2 hu hg
  first
    | (go_region_with ((first
      | (go_at_call 48; with_reducible refine Calls.mono (HCU.out _ ?_) ?_; (with_reducible (repeat (first | assumption | refine Below.drew ?_))); rintro e w8 ⟨a8, c8, rfl, N8, b8, l8⟩; have X8 := HX1.out.below b8; obtain ⟨-, -, -, -, -, -, -, -, z8, z9, -⟩ := X8.cells; have zf := X8.fz)
      | (go_at_call 48; with_reducible refine Calls.mono (HCG.out _ ?_) ?_; (with_reducible (repeat (first | assumption | refine Below.drew ?_))); rintro e w9 ⟨a9, c9, rfl, N9, b9, l9⟩; have X9 := HX1.out.below b9; obtain ⟨-, -, -, -, -, -, -, -, v8, v9, -⟩ := X9.cells; have vf := X9.fz))))
    | fail
  all_goals
    have N89 : NewLi w9 W.heap.size a8 uN c8 us := N8.below l9
    have HV1 : Aside (RetBox ((w9.setCell ⟨g1, 8, none⟩ (.slice a8 uN c8)).setCell ⟨g1, 9, none⟩ (.slice a9 gN c9)) g1 32 ⟨n0, n1, n2, n3, n4, n5, n6, n7, a8, uN, c8, a9, gN, c9, n10, n11, n12, n13⟩) := set89_at X9 a8 c8 a9 c9
    have hu : Upd (fun k => k = g1) w9 ((w9.setCell ⟨g1, 8, none⟩ (.slice a8 uN c8)).setCell ⟨g1, 9, none⟩ (.slice a9 gN c9)) := set89_upd w9 g1 a8 uN c8 a9 gN c9
    have HV2 : Aside (RetBox ((w9.setCell ⟨g1, 8, none⟩ (.slice a8 uN c8)).setCell ⟨g1, 9, none⟩ (.slice a9 gN c9)) g2 32 ret0) := (HX2.out.below b9).upd hu hne2
    have HN8 : Aside (NewLi ((w9.setCell ⟨g1, 8, none⟩ (.slice a8 uN c8)).setCell ⟨g1, 9, none⟩ (.slice a9 gN c9)) W.heap.size a8 uN c8 us) := N89.upd hu (fun g h1 _ e => by have := HLO.out; omega)
    have HN9 : Aside (NewLi ((w9.setCell ⟨g1, 8, none⟩ (.slice a8 uN c8)).setCell ⟨g1, 9, none⟩ (.slice a9 gN c9)) W.heap.size a9 gN c9 gs) := N9.upd hu (fun g h1 _ e => by have := HLO.out; omega)
    have HBV : Aside (Below w.heap.size w ((w9.setCell ⟨g1, 8, none⟩ (.slice a8 uN c8)).setCell ⟨g1, 9, none⟩ (.slice a9 gN c9))) := (HB3.out.trans (b9.mono HB3.out.size)).trans (hu.toBelow (by have := HB3.out.size; have := b9.size; omega) (fun k hk e => by have := HLO.out; omega))
    clear N8 N9 N89 b8 b9 l8 l9 X8 X9 z8 z9 zf v8 v9 vf hu b0 y8 y9 yf HX1 HX2 HB3 HW HCU HCG
    generalize ((w9.setCell ⟨g1, 8, none⟩ (.slice a8 uN c8)).setCell ⟨g1, 9, none⟩ (.slice a9 gN c9)) = V at *
    have HCV : Aside (∀ j v, (#[.int .i64 n0, .int .i64 n1, .int .i64 n2, .int .i64 n3, .int .i64 n4, .bool n5, .int .i64 n6, .int .i64 n7, .slice a8 uN c8, .slice a9 gN c9, .int .i64 n10, .int .i64 n11, .int .i64 n12, .int .i64 n13] : Array Value)[j]? = some v → V.cell? ⟨g1, 0 + j, none⟩ = some v) := HV1.out.at_cells
    obtain ⟨y0, y1, y2, y3, y4, y5, y6, y7, y8, y9, y10, y11, y12, y13⟩ := HV2.out.cells
    have yf := HV2.out.fz
    have HF : Aside _ := set14_at HV2.out ⟨n0, n1, n2, n3, n4, n5, n6, n7, a8, uN, c8, a9, gN, c9, n10, n11, n12, n13⟩
    have HFU : Aside _ := set14_upd V g2 ⟨n0, n1, n2, n3, n4, n5, n6, n7, a8, uN, c8, a9, gN, c9, n10, n11, n12, n13⟩
    unfold set14 at HF HFU
    dsimp only at HF HFU
    clear HV2 HV1
    go_wp2_with (refine wpList_load_cells rfl 32 _ rfl g1 0 rfl _ _ HCV.out Tryd.underlying32 rfl (by kernel_rfl) ?_)
    refine bodyPost_ret (results_cell_row rfl _ _ g2 32 #[.int .i64 n0, .int .i64 n1, .int .i64 n2, .int .i64 n3, .int .i64 n4, .bool n5, .int .i64 n6, .int .i64 n7, .slice a8 uN c8, .slice a9 gN c9, .int .i64 n10, .int .i64 n11, .int .i64 n12, .int .i64 n13] (0, 0) _ rfl HF.out.at' Tryd.underlying32 rfl info_ret) rfl ?_
    exact ⟨⟨a8, c8, a9, c9, rfl, ⟨(HN8.out.upd HFU.out (fun g h1 _ e => by have := HLO.out; omega)).lower HLO.out.2.2.1, (HN9.out.upd HFU.out (fun g h1 _ e => by have := HLO.out; omega)).lower HLO.out.2.2.1⟩⟩, HBV.out.trans (HFU.out.toBelow HBV.out.size (fun k hk e => by have := HLO.out; omega))⟩
end Go.Proofs.YtkjkamcjbhhefaaDoor
