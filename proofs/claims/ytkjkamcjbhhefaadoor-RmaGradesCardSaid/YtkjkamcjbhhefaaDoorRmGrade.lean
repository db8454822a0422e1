/-
  Package rma: Graded, Has, Grade. Conditions: those of each theorem.
-/
import Derived.Test.YtkjkamcjbhhefaaDoorRmLRight
import Derived.Test.YtkjkamcjbhhefaaDoorRmClone2
namespace Go.Proofs.YtkjkamcjbhhefaaDoor
open Go.RowKit
set_option maxRecDepth 100000

theorem NewLi.li_upd {S : Nat → Prop} {w w' : World} {B : Nat} {a : Option Addr} {n c : Nat} {xs : List Int} (h : NewLi w B a n c xs) (hu : Upd S w w') (hn : 0 < n → ∀ b o, a = some ⟨b, o, none⟩ → ¬ S b) : LiAt w' a n c xs := by
  refine ⟨h.len, h.cap, h.most, h.nil, ?_⟩
  by_cases h0 : 0 < n
  · exact h.li.at'.upd hu (fun b o e _ => hn h0 b o e)
  · exact .inl (List.length_eq_zero_iff.1 (by have := h.len; omega))
theorem LiAt.upd0 {S : Nat → Prop} {w w' : World} {a : Option Addr} {n c : Nat} {xs : List Int} (h : LiAt w a n c xs) (hu : Upd S w w') (hn : 0 < n → ∀ b o, a = some ⟨b, o, none⟩ → ¬ S b) : LiAt w' a n c xs := by
  refine ⟨h.len, h.cap, h.most, h.nil, ?_⟩
  by_cases h0 : 0 < n
  · exact h.at'.upd hu (fun b o e _ => hn h0 b o e)
  · exact .inl (List.length_eq_zero_iff.1 (by have := h.len; omega))
theorem NewLi.far {w : World} {B : Nat} {a : Option Addr} {n c : Nat} {xs : List Int} (h : NewLi w B a n c xs) (h0 : 0 < n) (b o : Nat) (e : a = some ⟨b, o, none⟩) : B ≤ b := by
  obtain ⟨g, _, e1, h1, _⟩ := h.own h0
  rw [e] at e1
  injection e1 with e1
  injection e1 with e1
  omega
theorem set_li {w3 : World} {gg n c k : Nat} {cur : Array Value} {t : TypeId} {gs : List Int} (hcur : w3.heap[gg]? = some (.cells cur t (0, 0))) (hall : ∀ i (h : i < gs.length), cur[i]? = some (.int .i64 gs[i])) (hn : gs.length = n) (hc : n ≤ c) (hm : c ≤ maxLen) (o : Obj) (v : Int) :
    LiAt ((w3.setCell ⟨gg, k, none⟩ (.int .i64 v)).alloc o) (some ⟨gg, 0, none⟩) n c (gs.set k v) := by
  have hgl := (Array.getElem?_eq_some_iff.1 hcur).1
  have hc0 : ∀ i (h : i < gs.length), w3.cell? ⟨gg, i, none⟩ = some (.int .i64 gs[i]) := fun i h => by
    rw [cell_of_row w3 gg i cur _ _ hcur]
    exact hall i h
  refine LiAt.below ?_ (upd_box o)
  refine ⟨by rw [List.length_set]; exact hn, hc, hm, (fun x => by cases x), .inr ⟨gg, 0, rfl, by rw [setCell_size]; exact hgl, fun i hi => ?_⟩⟩
  have hi' : i < gs.length := by simpa using hi
  rw [Nat.zero_add, List.getElem_set]
  by_cases e : k = i
  · subst e
    rw [if_pos rfl]
    exact cell_same (hc0 k hi')
  · rw [if_neg e, cell_other (fun x => e x.symm)]
    exact hc0 i hi'
def gradedB (r : Ret) (gs : List Int) : Bool := ((r.gN : Int) == (r.uN : Int)) && !hasB gs (-1)
set_option maxHeartbeats 1000000 in
theorem rma_graded (r : Ret) (us gs : List Int) (w : World) (h : RetAt w r us gs) (hg : r.gN ≤ 100000) :
    Calls Tryd.prog 17 #[.agg #[.int .i64 r.num, .int .i64 r.ord, .int .i64 r.rea, .int .i64 r.want, .int .i64 r.res, .bool r.cred, .int .i64 r.st, .int .i64 r.day, .slice r.uA r.uN r.uC, .slice r.gA r.gN r.gC, .int .i64 r.wor, .int .i64 r.pai, .int .i64 r.cre, .int .i64 r.giv]] w fun e w' => e = .returned (.bool (gradedB r gs)) ∧ Below w.heap.size w w' := by
  obtain ⟨n0, n1, n2, n3, n4, n5, n6, n7, uA, uN, uC, gA, gN, gC, n10, n11, n12, n13⟩ := r
  dsimp only at *
  have HC : Aside (∀ X, Below w.heap.size w X → Calls Tryd.prog 37 #[.slice gA gN gC, .int .i64 (-1)] X fun e w' => e = .returned (.bool (hasB gs (-1))) ∧ X = w') := fun X hX => slices_contains gA gs gN gC (-1) X h.g.len (h.g.below hX).at' hg
  have hS : gradedB ⟨n0, n1, n2, n3, n4, n5, n6, n7, uA, uN, uC, gA, gN, gC, n10, n11, n12, n13⟩ gs = (((gN : Int) == (uN : Int)) && !hasB gs (-1)) := rfl
  rw [hS]
  clear hS h
  generalize hasB gs (-1) = q at *
  by_cases c : gN = uN
  · have e10 : ((gN : Int) == (uN : Int)) = true := by rw [c]; simp
    clear c
    go_enter Tryd.func17, Tryd.ntmps17
    go_wp2_with fail
    refine Calls.mono (HC.out _ (upd_box _)) ?_
    rintro e w2 ⟨rfl, rfl⟩
    go_wp2
    go_ret
    exact ⟨by first | (rw [e10]; rfl) | rfl, upd_box _⟩
  · have e10 : ((gN : Int) == (uN : Int)) = false := by rw [beq_eq_false_iff_ne]; omega
    clear c
    go_enter Tryd.func17, Tryd.ntmps17
    go_wp2
    go_ret
    exact ⟨by first | (rw [e10]; rfl) | rfl, upd_box _⟩

set_option maxHeartbeats 1000000 in
theorem rma_has (r : Ret) (us gs : List Int) (v : Int) (w : World) (h : RetAt w r us gs) (hu : r.uN ≤ 100000) :
    Calls Tryd.prog 18 #[.agg #[.int .i64 r.num, .int .i64 r.ord, .int .i64 r.rea, .int .i64 r.want, .int .i64 r.res, .bool r.cred, .int .i64 r.st, .int .i64 r.day, .slice r.uA r.uN r.uC, .slice r.gA r.gN r.gC, .int .i64 r.wor, .int .i64 r.pai, .int .i64 r.cre, .int .i64 r.giv], .int .i64 v] w fun e w' => (∃ i, e = .returned (.int .i64 i) ∧ FirstAt us v i) ∧ Below w.heap.size w w' := by
  obtain ⟨n0, n1, n2, n3, n4, n5, n6, n7, uA, uN, uC, gA, gN, gC, n10, n11, n12, n13⟩ := r
  dsimp only at *
  have HC : Aside (∀ X, Below w.heap.size w X → Calls Tryd.prog 38 #[.slice uA uN uC, .int .i64 v] X fun e w' => (∃ i, e = .returned (.int .i64 i) ∧ FirstAt us v i) ∧ X = w') := fun X hX => slices_index uA us uN uC v X h.u.len (h.u.below hX).at' hu
  clear h
  go_enter Tryd.func18, Tryd.ntmps18
  go_wp2_with fail
  refine Calls.mono (HC.out _ (upd_box _)) ?_
  rintro e w2 ⟨⟨i, rfl, hi⟩, rfl⟩
  have HI : Aside (FirstAt us v i) := hi
  clear hi
  go_wp2
  go_ret
  exact ⟨⟨i, rfl, HI.out⟩, upd_box _⟩

set_option maxHeartbeats 4000000 in
theorem grade_wrong (r : Ret) (us gs : List Int) (unit grade : Int) (w : World) (h : RetAt w r us gs) (hu : r.uN ≤ 1000) (hg : r.gN ≤ 1000) (hr : rightB r us gs = false) :
    Calls Tryd.prog 19 #[.agg #[.int .i64 r.num, .int .i64 r.ord, .int .i64 r.rea, .int .i64 r.want, .int .i64 r.res, .bool r.cred, .int .i64 r.st, .int .i64 r.day, .slice r.uA r.uN r.uC, .slice r.gA r.gN r.gC, .int .i64 r.wor, .int .i64 r.pai, .int .i64 r.cre, .int .i64 r.giv], .int .i64 unit, .int .i64 grade] w fun e w' => e = .returned (.tuple #[.agg #[.int .i64 0, .int .i64 0, .int .i64 0, .int .i64 0, .int .i64 0, .bool false, .int .i64 0, .int .i64 0, .slice none 0 0, .slice none 0 0, .int .i64 0, .int .i64 0, .int .i64 0, .int .i64 0], .int .i64 1]) ∧ Below w.heap.size w w' := by
  obtain ⟨n0, n1, n2, n3, n4, n5, n6, n7, uA, uN, uC, gA, gN, gC, n10, n11, n12, n13⟩ := r
  dsimp only at *
  have H : Aside _ := h
  have HCR : Aside (∀ X, Below w.heap.size w X → Calls Tryd.prog 15 #[.agg #[.int .i64 n0, .int .i64 n1, .int .i64 n2, .int .i64 n3, .int .i64 n4, .bool n5, .int .i64 n6, .int .i64 n7, .slice uA uN uC, .slice gA gN gC, .int .i64 n10, .int .i64 n11, .int .i64 n12, .int .i64 n13]] X fun e w' => e = .returned (.bool false) ∧ Below X.heap.size X w') := fun X hX => by
    have := rma_right ⟨n0, n1, n2, n3, n4, n5, n6, n7, uA, uN, uC, gA, gN, gC, n10, n11, n12, n13⟩ us gs X (h.below hX) (Nat.le_trans hu (by decide)) (Nat.le_trans hg (by decide))
    rw [hr] at this
    exact this
  clear h hr
  obtain ⟨W, hW, hs2, hb2, X1, X2⟩ := two_rboxes w 32 32 ⟨n0, n1, n2, n3, n4, n5, n6, n7, uA, uN, uC, gA, gN, gC, n10, n11, n12, n13⟩ ret0
  unfold ret0 at hW
  dsimp only at hW
  have HB : Aside (Below w.heap.size w W) := hb2
  have HX1 : Aside (RetBox W w.heap.size 32 ⟨n0, n1, n2, n3, n4, n5, n6, n7, uA, uN, uC, gA, gN, gC, n10, n11, n12, n13⟩) := X1
  have HX2 : Aside (RetBox W (w.heap.size + 1) 32 ret0) := X2
  clear X1 X2 hb2 hs2
  go_enter Tryd.func19, Tryd.ntmps19
  go_wp2_with fail
  rw [← hW]
  clear hW
  obtain ⟨g2, hg2⟩ : ∃ g, g = w.heap.size + 1 := ⟨_, rfl⟩
  rw [← hg2] at HX2 ⊢
  obtain ⟨g1, hg1⟩ : ∃ g, g = w.heap.size := ⟨_, rfl⟩
  rw [← hg1] at HX1 ⊢
  have HLO : Hid (w.heap.size ≤ g1 ∧ w.heap.size ≤ g2 ∧ g1 ≠ g2) := ⟨by omega, by omega, by omega⟩
  clear hg1 hg2
  refine Calls.mono (HCR.out _ HB.out) ?_
  rintro e w1 ⟨rfl, b1⟩
  have HB1 : Aside (Below w.heap.size w w1) := HB.out.trans (b1.mono HB.out.size)
  have HX11 : Aside _ := HX1.out.below b1
  have HX21 : Aside _ := HX2.out.below b1
  clear HX1 HX2 b1 HB HCR
  obtain ⟨z0, z1, z2, z3, z4, z5, z6, z7, z8, z9, z10, z11, z12, z13⟩ := HX21.out.cells
  have zf := HX21.out.fz
  have HF : Aside _ := set14_at HX21.out ret0
  have HFU : Aside _ := set14_upd w1 g2 ret0
  unfold set14 ret0 at HF HFU
  dsimp only at HF HFU
  clear HX11 HX21
  go_wp2
  refine bodyPost_ret (results_row_tmp rfl _ _ g2 32 #[.int .i64 0, .int .i64 0, .int .i64 0, .int .i64 0, .int .i64 0, .bool false, .int .i64 0, .int .i64 0, .slice none 0 0, .slice none 0 0, .int .i64 0, .int .i64 0, .int .i64 0, .int .i64 0] (0, 0) _ rfl HF.out.at' Tryd.underlying32 rfl info_ret) rfl ?_
  exact ⟨rfl, HB1.out.trans (HFU.out.toBelow HB1.out.size (fun k hk e => by have := HLO.out; omega))⟩

set_option maxHeartbeats 4000000 in
theorem grade_odd (r : Ret) (us gs : List Int) (unit grade : Int) (w : World) (h : RetAt w r us gs) (hu : r.uN ≤ 1000) (hg : r.gN ≤ 1000) (hr : rightB r us gs = true) (hf : fromB 0 grade 4 = false) :
    Calls Tryd.prog 19 #[.agg #[.int .i64 r.num, .int .i64 r.ord, .int .i64 r.rea, .int .i64 r.want, .int .i64 r.res, .bool r.cred, .int .i64 r.st, .int .i64 r.day, .slice r.uA r.uN r.uC, .slice r.gA r.gN r.gC, .int .i64 r.wor, .int .i64 r.pai, .int .i64 r.cre, .int .i64 r.giv], .int .i64 unit, .int .i64 grade] w fun e w' => e = .returned (.tuple #[.agg #[.int .i64 0, .int .i64 0, .int .i64 0, .int .i64 0, .int .i64 0, .bool false, .int .i64 0, .int .i64 0, .slice none 0 0, .slice none 0 0, .int .i64 0, .int .i64 0, .int .i64 0, .int .i64 0], .int .i64 1]) ∧ Below w.heap.size w w' := by
  obtain ⟨n0, n1, n2, n3, n4, n5, n6, n7, uA, uN, uC, gA, gN, gC, n10, n11, n12, n13⟩ := r
  dsimp only at *
  have H : Aside _ := h
  have HCR : Aside (∀ X, Below w.heap.size w X → Calls Tryd.prog 15 #[.agg #[.int .i64 n0, .int .i64 n1, .int .i64 n2, .int .i64 n3, .int .i64 n4, .bool n5, .int .i64 n6, .int .i64 n7, .slice uA uN uC, .slice gA gN gC, .int .i64 n10, .int .i64 n11, .int .i64 n12, .int .i64 n13]] X fun e w' => e = .returned (.bool true) ∧ Below X.heap.size X w') := fun X hX => by
    have := rma_right ⟨n0, n1, n2, n3, n4, n5, n6, n7, uA, uN, uC, gA, gN, gC, n10, n11, n12, n13⟩ us gs X (h.below hX) (Nat.le_trans hu (by decide)) (Nat.le_trans hg (by decide))
    rw [hr] at this
    exact this
  have HCF : Aside (∀ w, Calls Tryd.prog 31 #[.int .i64 0, .int .i64 grade, .int .i64 4] w fun e w' => e = .returned (.bool (fromB 0 grade 4)) ∧ w = w') := is_from _ _ _
  rw [hf] at HCF
  clear h hr hf
  obtain ⟨W, hW, hs2, hb2, X1, X2⟩ := two_rboxes w 32 32 ⟨n0, n1, n2, n3, n4, n5, n6, n7, uA, uN, uC, gA, gN, gC, n10, n11, n12, n13⟩ ret0
  unfold ret0 at hW
  dsimp only at hW
  have HB : Aside (Below w.heap.size w W) := hb2
  have HX1 : Aside (RetBox W w.heap.size 32 ⟨n0, n1, n2, n3, n4, n5, n6, n7, uA, uN, uC, gA, gN, gC, n10, n11, n12, n13⟩) := X1
  have HX2 : Aside (RetBox W (w.heap.size + 1) 32 ret0) := X2
  clear X1 X2 hb2 hs2
  go_enter Tryd.func19, Tryd.ntmps19
  go_wp2_with fail
  rw [← hW]
  clear hW
  obtain ⟨g2, hg2⟩ : ∃ g, g = w.heap.size + 1 := ⟨_, rfl⟩
  rw [← hg2] at HX2 ⊢
  obtain ⟨g1, hg1⟩ : ∃ g, g = w.heap.size := ⟨_, rfl⟩
  rw [← hg1] at HX1 ⊢
  have HLO : Hid (w.heap.size ≤ g1 ∧ w.heap.size ≤ g2 ∧ g1 ≠ g2) := ⟨by omega, by omega, by omega⟩
  clear hg1 hg2
  refine Calls.mono (HCR.out _ HB.out) ?_
  rintro e w1 ⟨rfl, b1⟩
  have HB1 : Aside (Below w.heap.size w w1) := HB.out.trans (b1.mono HB.out.size)
  have HX11 : Aside _ := HX1.out.below b1
  have HX21 : Aside _ := HX2.out.below b1
  clear HX1 HX2 b1 HB HCR
  go_wp2_with fail
  refine Calls.mono (HCF.out _) ?_
  rintro e w2 ⟨rfl, rfl⟩
  clear HCF
  obtain ⟨z0, z1, z2, z3, z4, z5, z6, z7, z8, z9, z10, z11, z12, z13⟩ := HX21.out.cells
  have zf := HX21.out.fz
  have HF : Aside _ := set14_at HX21.out ret0
  have HFU : Aside _ := set14_upd w1 g2 ret0
  unfold set14 ret0 at HF HFU
  dsimp only at HF HFU
  clear HX11 HX21
  go_wp2
  refine bodyPost_ret (results_row_tmp rfl _ _ g2 32 #[.int .i64 0, .int .i64 0, .int .i64 0, .int .i64 0, .int .i64 0, .bool false, .int .i64 0, .int .i64 0, .slice none 0 0, .slice none 0 0, .int .i64 0, .int .i64 0, .int .i64 0, .int .i64 0] (0, 0) _ rfl HF.out.at' Tryd.underlying32 rfl info_ret) rfl ?_
  exact ⟨rfl, HB1.out.trans (HFU.out.toBelow HB1.out.size (fun k hk e => by have := HLO.out; omega))⟩

set_option maxHeartbeats 4000000 in
theorem grade_none (r : Ret) (us gs : List Int) (unit grade : Int) (w : World) (h : RetAt w r us gs) (hu : r.uN ≤ 1000) (hg : r.gN ≤ 1000) (hr : rightB r us gs = true) (hf : fromB 0 grade 4 = true) (ha : FirstAt us unit (-1)) :
    Calls Tryd.prog 19 #[.agg #[.int .i64 r.num, .int .i64 r.ord, .int .i64 r.rea, .int .i64 r.want, .int .i64 r.res, .bool r.cred, .int .i64 r.st, .int .i64 r.day, .slice r.uA r.uN r.uC, .slice r.gA r.gN r.gC, .int .i64 r.wor, .int .i64 r.pai, .int .i64 r.cre, .int .i64 r.giv], .int .i64 unit, .int .i64 grade] w fun e w' => e = .returned (.tuple #[.agg #[.int .i64 0, .int .i64 0, .int .i64 0, .int .i64 0, .int .i64 0, .bool false, .int .i64 0, .int .i64 0, .slice none 0 0, .slice none 0 0, .int .i64 0, .int .i64 0, .int .i64 0, .int .i64 0], .int .i64 7]) ∧ Below w.heap.size w w' := by
  obtain ⟨n0, n1, n2, n3, n4, n5, n6, n7, uA, uN, uC, gA, gN, gC, n10, n11, n12, n13⟩ := r
  dsimp only at *
  have H : Aside _ := h
  have HCR : Aside (∀ X, Below w.heap.size w X → Calls Tryd.prog 15 #[.agg #[.int .i64 n0, .int .i64 n1, .int .i64 n2, .int .i64 n3, .int .i64 n4, .bool n5, .int .i64 n6, .int .i64 n7, .slice uA uN uC, .slice gA gN gC, .int .i64 n10, .int .i64 n11, .int .i64 n12, .int .i64 n13]] X fun e w' => e = .returned (.bool true) ∧ Below X.heap.size X w') := fun X hX => by
    have := rma_right ⟨n0, n1, n2, n3, n4, n5, n6, n7, uA, uN, uC, gA, gN, gC, n10, n11, n12, n13⟩ us gs X (h.below hX) (Nat.le_trans hu (by decide)) (Nat.le_trans hg (by decide))
    rw [hr] at this
    exact this
  have HCF : Aside (∀ w, Calls Tryd.prog 31 #[.int .i64 0, .int .i64 grade, .int .i64 4] w fun e w' => e = .returned (.bool (fromB 0 grade 4)) ∧ w = w') := is_from _ _ _
  rw [hf] at HCF
  have HA : Aside (FirstAt us unit (-1)) := ha
  clear h hr hf ha
  obtain ⟨W, hW, hs2, hb2, X1, X2⟩ := two_rboxes w 32 32 ⟨n0, n1, n2, n3, n4, n5, n6, n7, uA, uN, uC, gA, gN, gC, n10, n11, n12, n13⟩ ret0
  unfold ret0 at hW
  dsimp only at hW
  have HB : Aside (Below w.heap.size w W) := hb2
  have HX1 : Aside (RetBox W w.heap.size 32 ⟨n0, n1, n2, n3, n4, n5, n6, n7, uA, uN, uC, gA, gN, gC, n10, n11, n12, n13⟩) := X1
  have HX2 : Aside (RetBox W (w.heap.size + 1) 32 ret0) := X2
  clear X1 X2 hb2 hs2
  go_enter Tryd.func19, Tryd.ntmps19
  go_wp2_with fail
  rw [← hW]
  clear hW
  obtain ⟨g2, hg2⟩ : ∃ g, g = w.heap.size + 1 := ⟨_, rfl⟩
  rw [← hg2] at HX2 ⊢
  obtain ⟨g1, hg1⟩ : ∃ g, g = w.heap.size := ⟨_, rfl⟩
  rw [← hg1] at HX1 ⊢
  have HLO : Hid (w.heap.size ≤ g1 ∧ w.heap.size ≤ g2 ∧ g1 ≠ g2) := ⟨by omega, by omega, by omega⟩
  clear hg1 hg2
  refine Calls.mono (HCR.out _ HB.out) ?_
  rintro e w1 ⟨rfl, b1⟩
  have HB1 : Aside (Below w.heap.size w w1) := HB.out.trans (b1.mono HB.out.size)
  have HX11 : Aside _ := HX1.out.below b1
  have HX21 : Aside _ := HX2.out.below b1
  clear HX1 HX2 b1 HB HCR
  go_wp2_with fail
  refine Calls.mono (HCF.out _) ?_
  rintro e w2 ⟨rfl, rfl⟩
  clear HCF
  obtain ⟨y0, y1, y2, y3, y4, y5, y6, y7, y8, y9, y10, y11, y12, y13⟩ := HX11.out.cells
  have hl1 := HX11.out.lt
  have HCH : Aside (Calls Tryd.prog 18 #[.agg #[.int .i64 n0, .int .i64 n1, .int .i64 n2, .int .i64 n3, .int .i64 n4, .bool n5, .int .i64 n6, .int .i64 n7, .slice uA uN uC, .slice gA gN gC, .int .i64 n10, .int .i64 n11, .int .i64 n12, .int .i64 n13], .int .i64 unit] w1 fun e w' => (∃ i, e = .returned (.int .i64 i) ∧ FirstAt us unit i) ∧ Below w1.heap.size w1 w') := rma_has ⟨n0, n1, n2, n3, n4, n5, n6, n7, uA, uN, uC, gA, gN, gC, n10, n11, n12, n13⟩ us gs unit w1 (H.out.below HB1.out) (Nat.le_trans hu (by decide))
  go_wp2_with fail
  refine Calls.mono HCH.out ?_
  rintro e w2 ⟨⟨i, rfl, hi⟩, b2⟩
  obtain rfl := hi.uniq HA.out
  have HB2 : Aside (Below w.heap.size w w2) := HB1.out.trans (b2.mono HB1.out.size)
  have HX12 : Aside _ := HX11.out.below b2
  have HX22 : Aside _ := HX21.out.below b2
  clear HX11 HX21 b2 HB1 HCH y0 y1 y2 y3 y4 y5 y6 y7 y8 y9 y10 y11 y12 y13 hl1 hi
  clear HA
  obtain ⟨z0, z1, z2, z3, z4, z5, z6, z7, z8, z9, z10, z11, z12, z13⟩ := HX22.out.cells
  have zf := HX22.out.fz
  have HF : Aside _ := set14_at HX22.out ret0
  have HFU : Aside _ := set14_upd w2 g2 ret0
  unfold set14 ret0 at HF HFU
  dsimp only at HF HFU
  clear HX12 HX22
  go_wp2
  refine bodyPost_ret (results_row_tmp rfl _ _ g2 32 #[.int .i64 0, .int .i64 0, .int .i64 0, .int .i64 0, .int .i64 0, .bool false, .int .i64 0, .int .i64 0, .slice none 0 0, .slice none 0 0, .int .i64 0, .int .i64 0, .int .i64 0, .int .i64 0] (0, 0) _ rfl HF.out.at' Tryd.underlying32 rfl info_ret) rfl ?_
  exact ⟨rfl, HB2.out.trans (HFU.out.toBelow HB2.out.size (fun k hk e => by have := HLO.out; omega))⟩

set_option maxHeartbeats 4000000 in
theorem grade_state (r : Ret) (us gs : List Int) (unit grade : Int) (w : World) (h : RetAt w r us gs) (hu : r.uN ≤ 1000) (hg : r.gN ≤ 1000) (hr : rightB r us gs = true) (hf : fromB 0 grade 4 = true) (k : Nat) (hk : k < r.gN) (gk : Int) (hgk : gs.getD k 0 = gk) (hne : gk ≠ -1) (ha : FirstAt us unit (k : Int)) :
    Calls Tryd.prog 19 #[.agg #[.int .i64 r.num, .int .i64 r.ord, .int .i64 r.rea, .int .i64 r.want, .int .i64 r.res, .bool r.cred, .int .i64 r.st, .int .i64 r.day, .slice r.uA r.uN r.uC, .slice r.gA r.gN r.gC, .int .i64 r.wor, .int .i64 r.pai, .int .i64 r.cre, .int .i64 r.giv], .int .i64 unit, .int .i64 grade] w fun e w' => e = .returned (.tuple #[.agg #[.int .i64 0, .int .i64 0, .int .i64 0, .int .i64 0, .int .i64 0, .bool false, .int .i64 0, .int .i64 0, .slice none 0 0, .slice none 0 0, .int .i64 0, .int .i64 0, .int .i64 0, .int .i64 0], .int .i64 8]) ∧ Below w.heap.size w w' := by
  obtain ⟨n0, n1, n2, n3, n4, n5, n6, n7, uA, uN, uC, gA, gN, gC, n10, n11, n12, n13⟩ := r
  dsimp only at *
  have hk0 : (0 : Int) ≤ (k : Int) := by omega
  have hkg : (k : Int) < (gN : Int) := by omega
  obtain ⟨bg, og, rfl, hbg, hck⟩ : ∃ b o, gA = some ⟨b, o, none⟩ ∧ b < w.heap.size ∧ w.cell? ⟨b, o + k, none⟩ = some (.int .i64 gk) := by
    rcases h.g.at' with e | ⟨b, o, e, hb, hc⟩
    · have := h.g.len; rw [e] at this; exact absurd hk (by have h0 : 0 = gN := this; omega)
    · have hl : k < gs.length := by rw [show gs.length = gN from h.g.len]; exact hk
      refine ⟨b, o, e, hb, ?_⟩
      rw [← hgk, getD_at hl]
      exact hc k hl
  have H : Aside _ := h
  have HCR : Aside (∀ X, Below w.heap.size w X → Calls Tryd.prog 15 #[.agg #[.int .i64 n0, .int .i64 n1, .int .i64 n2, .int .i64 n3, .int .i64 n4, .bool n5, .int .i64 n6, .int .i64 n7, .slice uA uN uC, .slice (some ⟨bg, og, none⟩) gN gC, .int .i64 n10, .int .i64 n11, .int .i64 n12, .int .i64 n13]] X fun e w' => e = .returned (.bool true) ∧ Below X.heap.size X w') := fun X hX => by
    have := rma_right ⟨n0, n1, n2, n3, n4, n5, n6, n7, uA, uN, uC, (some ⟨bg, og, none⟩), gN, gC, n10, n11, n12, n13⟩ us gs X (h.below hX) (Nat.le_trans hu (by decide)) (Nat.le_trans hg (by decide))
    rw [hr] at this
    exact this
  have HCF : Aside (∀ w, Calls Tryd.prog 31 #[.int .i64 0, .int .i64 grade, .int .i64 4] w fun e w' => e = .returned (.bool (fromB 0 grade 4)) ∧ w = w') := is_from _ _ _
  rw [hf] at HCF
  have HA : Aside (FirstAt us unit (k : Int)) := ha
  have hne1 : ((gk : Int) != -1) = true := by simpa using hne
  clear h hr hf ha hgk hne
  obtain ⟨W, hW, hs2, hb2, X1, X2⟩ := two_rboxes w 32 32 ⟨n0, n1, n2, n3, n4, n5, n6, n7, uA, uN, uC, (some ⟨bg, og, none⟩), gN, gC, n10, n11, n12, n13⟩ ret0
  unfold ret0 at hW
  dsimp only at hW
  have HB : Aside (Below w.heap.size w W) := hb2
  have HX1 : Aside (RetBox W w.heap.size 32 ⟨n0, n1, n2, n3, n4, n5, n6, n7, uA, uN, uC, (some ⟨bg, og, none⟩), gN, gC, n10, n11, n12, n13⟩) := X1
  have HX2 : Aside (RetBox W (w.heap.size + 1) 32 ret0) := X2
  clear X1 X2 hb2 hs2
  go_enter Tryd.func19, Tryd.ntmps19
  go_wp2_with fail
  rw [← hW]
  clear hW
  obtain ⟨g2, hg2⟩ : ∃ g, g = w.heap.size + 1 := ⟨_, rfl⟩
  rw [← hg2] at HX2 ⊢
  obtain ⟨g1, hg1⟩ : ∃ g, g = w.heap.size := ⟨_, rfl⟩
  rw [← hg1] at HX1 ⊢
  have HLO : Hid (w.heap.size ≤ g1 ∧ w.heap.size ≤ g2 ∧ g1 ≠ g2) := ⟨by omega, by omega, by omega⟩
  clear hg1 hg2
  refine Calls.mono (HCR.out _ HB.out) ?_
  rintro e w1 ⟨rfl, b1⟩
  have HB1 : Aside (Below w.heap.size w w1) := HB.out.trans (b1.mono HB.out.size)
  have HX11 : Aside _ := HX1.out.below b1
  have HX21 : Aside _ := HX2.out.below b1
  clear HX1 HX2 b1 HB HCR
  go_wp2_with fail
  refine Calls.mono (HCF.out _) ?_
  rintro e w2 ⟨rfl, rfl⟩
  clear HCF
  obtain ⟨y0, y1, y2, y3, y4, y5, y6, y7, y8, y9, y10, y11, y12, y13⟩ := HX11.out.cells
  have hl1 := HX11.out.lt
  have HCH : Aside (Calls Tryd.prog 18 #[.agg #[.int .i64 n0, .int .i64 n1, .int .i64 n2, .int .i64 n3, .int .i64 n4, .bool n5, .int .i64 n6, .int .i64 n7, .slice uA uN uC, .slice (some ⟨bg, og, none⟩) gN gC, .int .i64 n10, .int .i64 n11, .int .i64 n12, .int .i64 n13], .int .i64 unit] w1 fun e w' => (∃ i, e = .returned (.int .i64 i) ∧ FirstAt us unit i) ∧ Below w1.heap.size w1 w') := rma_has ⟨n0, n1, n2, n3, n4, n5, n6, n7, uA, uN, uC, (some ⟨bg, og, none⟩), gN, gC, n10, n11, n12, n13⟩ us gs unit w1 (H.out.below HB1.out) (Nat.le_trans hu (by decide))
  go_wp2_with fail
  refine Calls.mono HCH.out ?_
  rintro e w2 ⟨⟨i, rfl, hi⟩, b2⟩
  obtain rfl := hi.uniq HA.out
  have HB2 : Aside (Below w.heap.size w w2) := HB1.out.trans (b2.mono HB1.out.size)
  have HX12 : Aside _ := HX11.out.below b2
  have HX22 : Aside _ := HX21.out.below b2
  clear HX11 HX21 b2 HB1 HCH y0 y1 y2 y3 y4 y5 y6 y7 y8 y9 y10 y11 y12 y13 hl1 hi
  have hcw : w2.cell? ⟨bg, og + k, none⟩ = some (.int .i64 gk) := (HB2.out.cell (p := ⟨bg, og + k, none⟩) hbg).trans hck
  obtain ⟨-, -, -, -, -, -, -, -, -, y9, -⟩ := HX12.out.cells
  have hl1 := HX12.out.lt
  clear HA hck
  obtain ⟨z0, z1, z2, z3, z4, z5, z6, z7, z8, z9, z10, z11, z12, z13⟩ := HX22.out.cells
  have zf := HX22.out.fz
  have HF : Aside _ := set14_at HX22.out ret0
  have HFU : Aside _ := set14_upd w2 g2 ret0
  unfold set14 ret0 at HF HFU
  dsimp only at HF HFU
  clear HX12 HX22
  go_wp2
  refine bodyPost_ret (results_row_tmp rfl _ _ g2 32 #[.int .i64 0, .int .i64 0, .int .i64 0, .int .i64 0, .int .i64 0, .bool false, .int .i64 0, .int .i64 0, .slice none 0 0, .slice none 0 0, .int .i64 0, .int .i64 0, .int .i64 0, .int .i64 0] (0, 0) _ rfl HF.out.at' Tryd.underlying32 rfl info_ret) rfl ?_
  exact ⟨rfl, HB2.out.trans (HFU.out.toBelow HB2.out.size (fun k hk e => by have := HLO.out; omega))⟩

set_option maxHeartbeats 4000000 in
theorem grade_ok (r : Ret) (us gs : List Int) (unit grade : Int) (w : World) (h : RetAt w r us gs) (hu : r.uN ≤ 1000) (hg : r.gN ≤ 1000) (hr : rightB r us gs = true) (hf : fromB 0 grade 4 = true) (k : Nat) (hk : k < r.gN) (hgk : gs.getD k 0 = -1) (ha : FirstAt us unit (k : Int)) :
    Calls Tryd.prog 19 #[.agg #[.int .i64 r.num, .int .i64 r.ord, .int .i64 r.rea, .int .i64 r.want, .int .i64 r.res, .bool r.cred, .int .i64 r.st, .int .i64 r.day, .slice r.uA r.uN r.uC, .slice r.gA r.gN r.gC, .int .i64 r.wor, .int .i64 r.pai, .int .i64 r.cre, .int .i64 r.giv], .int .i64 unit, .int .i64 grade] w fun e w' => (∃ a n b m, e = .returned (.tuple #[.agg #[.int .i64 (r.at2 a n b m).num, .int .i64 (r.at2 a n b m).ord, .int .i64 (r.at2 a n b m).rea, .int .i64 (r.at2 a n b m).want, .int .i64 (r.at2 a n b m).res, .bool (r.at2 a n b m).cred, .int .i64 (r.at2 a n b m).st, .int .i64 (r.at2 a n b m).day, .slice (r.at2 a n b m).uA (r.at2 a n b m).uN (r.at2 a n b m).uC, .slice (r.at2 a n b m).gA (r.at2 a n b m).gN (r.at2 a n b m).gC, .int .i64 (r.at2 a n b m).wor, .int .i64 (r.at2 a n b m).pai, .int .i64 (r.at2 a n b m).cre, .int .i64 (r.at2 a n b m).giv], .int .i64 0]) ∧ RetAt w' (r.at2 a n b m) us (gs.set k grade)) ∧ Below w.heap.size w w' := by
  obtain ⟨n0, n1, n2, n3, n4, n5, n6, n7, uA, uN, uC, gA, gN, gC, n10, n11, n12, n13⟩ := r
  dsimp only at *
  have hk0 : (0 : Int) ≤ (k : Int) := by omega
  have hkg : (k : Int) < (gN : Int) := by omega
  obtain ⟨bg, og, rfl, hbg, hck⟩ : ∃ b o, gA = some ⟨b, o, none⟩ ∧ b < w.heap.size ∧ w.cell? ⟨b, o + k, none⟩ = some (.int .i64 (-1)) := by
    rcases h.g.at' with e | ⟨b, o, e, hb, hc⟩
    · have := h.g.len; rw [e] at this; exact absurd hk (by have h0 : 0 = gN := this; omega)
    · have hl : k < gs.length := by rw [show gs.length = gN from h.g.len]; exact hk
      refine ⟨b, o, e, hb, ?_⟩
      rw [← hgk, getD_at hl]
      exact hc k hl
  have H : Aside _ := h
  have HCR : Aside (∀ X, Below w.heap.size w X → Calls Tryd.prog 15 #[.agg #[.int .i64 n0, .int .i64 n1, .int .i64 n2, .int .i64 n3, .int .i64 n4, .bool n5, .int .i64 n6, .int .i64 n7, .slice uA uN uC, .slice (some ⟨bg, og, none⟩) gN gC, .int .i64 n10, .int .i64 n11, .int .i64 n12, .int .i64 n13]] X fun e w' => e = .returned (.bool true) ∧ Below X.heap.size X w') := fun X hX => by
    have := rma_right ⟨n0, n1, n2, n3, n4, n5, n6, n7, uA, uN, uC, (some ⟨bg, og, none⟩), gN, gC, n10, n11, n12, n13⟩ us gs X (h.below hX) (Nat.le_trans hu (by decide)) (Nat.le_trans hg (by decide))
    rw [hr] at this
    exact this
  have HCF : Aside (∀ w, Calls Tryd.prog 31 #[.int .i64 0, .int .i64 grade, .int .i64 4] w fun e w' => e = .returned (.bool (fromB 0 grade 4)) ∧ w = w') := is_from _ _ _
  rw [hf] at HCF
  have HA : Aside (FirstAt us unit (k : Int)) := ha
  have HKG := Lib.hid hk
  clear h hr hf ha hgk
  obtain ⟨W, hW, hs2, hb2, X1, X2⟩ := two_rboxes w 32 32 ⟨n0, n1, n2, n3, n4, n5, n6, n7, uA, uN, uC, (some ⟨bg, og, none⟩), gN, gC, n10, n11, n12, n13⟩ ret0
  unfold ret0 at hW
  dsimp only at hW
  have HB : Aside (Below w.heap.size w W) := hb2
  have HX1 : Aside (RetBox W w.heap.size 32 ⟨n0, n1, n2, n3, n4, n5, n6, n7, uA, uN, uC, (some ⟨bg, og, none⟩), gN, gC, n10, n11, n12, n13⟩) := X1
  have HX2 : Aside (RetBox W (w.heap.size + 1) 32 ret0) := X2
  clear X1 X2 hb2 hs2
  go_enter Tryd.func19, Tryd.ntmps19
  go_wp2_with fail
  rw [← hW]
  clear hW
  obtain ⟨g2, hg2⟩ : ∃ g, g = w.heap.size + 1 := ⟨_, rfl⟩
  rw [← hg2] at HX2 ⊢
  obtain ⟨g1, hg1⟩ : ∃ g, g = w.heap.size := ⟨_, rfl⟩
  rw [← hg1] at HX1 ⊢
  have HLO : Hid (w.heap.size ≤ g1 ∧ w.heap.size ≤ g2 ∧ g1 ≠ g2) := ⟨by omega, by omega, by omega⟩
  clear hg1 hg2
  refine Calls.mono (HCR.out _ HB.out) ?_
  rintro e w1 ⟨rfl, b1⟩
  have HB1 : Aside (Below w.heap.size w w1) := HB.out.trans (b1.mono HB.out.size)
  have HX11 : Aside _ := HX1.out.below b1
  have HX21 : Aside _ := HX2.out.below b1
  clear HX1 HX2 b1 HB HCR
  go_wp2_with fail
  refine Calls.mono (HCF.out _) ?_
  rintro e w2 ⟨rfl, rfl⟩
  clear HCF
  obtain ⟨y0, y1, y2, y3, y4, y5, y6, y7, y8, y9, y10, y11, y12, y13⟩ := HX11.out.cells
  have hl1 := HX11.out.lt
  have HCH : Aside (Calls Tryd.prog 18 #[.agg #[.int .i64 n0, .int .i64 n1, .int .i64 n2, .int .i64 n3, .int .i64 n4, .bool n5, .int .i64 n6, .int .i64 n7, .slice uA uN uC, .slice (some ⟨bg, og, none⟩) gN gC, .int .i64 n10, .int .i64 n11, .int .i64 n12, .int .i64 n13], .int .i64 unit] w1 fun e w' => (∃ i, e = .returned (.int .i64 i) ∧ FirstAt us unit i) ∧ Below w1.heap.size w1 w') := rma_has ⟨n0, n1, n2, n3, n4, n5, n6, n7, uA, uN, uC, (some ⟨bg, og, none⟩), gN, gC, n10, n11, n12, n13⟩ us gs unit w1 (H.out.below HB1.out) (Nat.le_trans hu (by decide))
  go_wp2_with fail
  refine Calls.mono HCH.out ?_
  rintro e w2 ⟨⟨i, rfl, hi⟩, b2⟩
  obtain rfl := hi.uniq HA.out
  have HB2 : Aside (Below w.heap.size w w2) := HB1.out.trans (b2.mono HB1.out.size)
  have HX12 : Aside _ := HX11.out.below b2
  have HX22 : Aside _ := HX21.out.below b2
  clear HX11 HX21 b2 HB1 HCH y0 y1 y2 y3 y4 y5 y6 y7 y8 y9 y10 y11 y12 y13 hl1 hi
  have hcw : w2.cell? ⟨bg, og + k, none⟩ = some (.int .i64 (-1)) := (HB2.out.cell (p := ⟨bg, og + k, none⟩) hbg).trans hck
  obtain ⟨y0, y1, y2, y3, y4, y5, y6, y7, y8, y9, y10, y11, y12, y13⟩ := HX12.out.cells
  have hl1 := HX12.out.lt
  have HCC : Aside (Calls Tryd.prog 30 #[.agg #[.int .i64 n0, .int .i64 n1, .int .i64 n2, .int .i64 n3, .int .i64 n4, .bool n5, .int .i64 n6, .int .i64 n7, .slice uA uN uC, .slice (some ⟨bg, og, none⟩) gN gC, .int .i64 n10, .int .i64 n11, .int .i64 n12, .int .i64 n13]] w2 fun e w' => (∃ a n b m, e = .returned (.agg #[.int .i64 n0, .int .i64 n1, .int .i64 n2, .int .i64 n3, .int .i64 n4, .bool n5, .int .i64 n6, .int .i64 n7, .slice a uN n, .slice b gN m, .int .i64 n10, .int .i64 n11, .int .i64 n12, .int .i64 n13]) ∧ NewLi w' w2.heap.size a uN n us ∧ NewLi w' w2.heap.size b gN m gs ∧ (0 < uN → 0 < gN → ∀ x o x' o', a = some ⟨x, o, none⟩ → b = some ⟨x', o', none⟩ → x ≠ x')) ∧ Below w2.heap.size w2 w') := by
    refine (rma_clone2 ⟨n0, n1, n2, n3, n4, n5, n6, n7, uA, uN, uC, some ⟨bg, og, none⟩, gN, gC, n10, n11, n12, n13⟩ us gs w2 (H.out.below HB2.out) hu hg).mono ?_
    rintro e w' ⟨⟨a, n, b, m, rfl, hn, hap⟩, hb⟩
    exact ⟨⟨a, n, b, m, rfl, hn.u, hn.g, hap⟩, hb⟩
  clear HA hck
  go_wp2_with fail
  refine Calls.mono HCC.out ?_
  rintro e w3 ⟨⟨a8, c8, b9, c9, rfl, N8, N9, hap⟩, b3⟩
  have hgs : gs.length = gN := H.out.g.len
  obtain ⟨gg, cur, rfl, hgg, hcur, hall⟩ := N9.own (by omega)
  have HB3 : Aside (Below w.heap.size w w3) := HB2.out.trans (b3.mono HB2.out.size)
  have HX23 : Aside _ := HX22.out.below b3
  have hlk : k < gs.length := by omega
  have hz2 := HX22.out.lt
  have hggl : gg < w3.heap.size := (Array.getElem?_eq_some_iff.1 hcur).1
  have HGG : Hid (gg < w3.heap.size ∧ w2.heap.size ≤ gg ∧ g2 < w2.heap.size ∧ w2.heap.size ≤ w3.heap.size) := ⟨hggl, hgg, hz2, b3.size⟩
  have hx0 : w3.cell? ⟨gg, k, none⟩ = some (.int .i64 gs[k]) := by rw [cell_of_row w3 gg k cur _ _ hcur]; exact hall k hlk
  have hxf : w3.frozen? ⟨gg, k, none⟩ = false := by simp [World.frozen?, hcur]
  generalize gs[k] = gk0 at hx0
  have HN8 : Aside (NewLi w3 w2.heap.size a8 uN c8 us) := N8
  have HN9 : Aside (NewLi w3 w2.heap.size (some ⟨gg, 0, none⟩) gN c9 gs) := N9
  have HCU : Hid (w3.heap[gg]? = some (.cells cur 3 (0, 0)) ∧ ∀ i (h : i < gs.length), cur[i]? = some (.int .i64 gs[i])) := ⟨hcur, hall⟩
  have HGS := Lib.hid hgs
  have HF8 : Hid (0 < uN → ∀ b o, a8 = some ⟨b, o, none⟩ → w2.heap.size ≤ b) := N8.far
  have HAP : Hid (∀ x o, 0 < uN → a8 = some ⟨x, o, none⟩ → x ≠ gg) := fun x o h0 e => hap h0 (by omega) x o gg 0 e rfl
  clear HX12 HX22 b3 HB2 HCC y0 y1 y2 y3 y4 y5 y6 y7 y8 y9 y10 y11 y12 y13 hl1 hcw N8 N9 hgg hcur hall hlk hz2 hgs hap
  have hk1 : (k : Int) < (gN : Int) := hkg
  go_upto_region 10 with (refine wpList_store_new rfl 32 _ _ rfl _ _ rfl rfl (by kernel_rfl) rfl rfl ?_)
  have HX9 : RetBox ((w3.setCell ⟨gg, k, none⟩ (.int .i64 grade)).alloc (.cells #[.int .i64 n0, .int .i64 n1, .int .i64 n2, .int .i64 n3, .int .i64 n4, .bool n5, .int .i64 n6, .int .i64 n7, .slice a8 uN c8, .slice (some ⟨gg, 0, none⟩) gN c9, .int .i64 n10, .int .i64 n11, .int .i64 n12, .int .i64 n13] 32)) w3.heap.size 32 ⟨n0, n1, n2, n3, n4, n5, n6, n7, a8, uN, c8, some ⟨gg, 0, none⟩, gN, c9, n10, n11, n12, n13⟩ := by have := RetBox.made (w3.setCell ⟨gg, k, none⟩ (.int .i64 grade)) 32 ⟨n0, n1, n2, n3, n4, n5, n6, n7, a8, uN, c8, some ⟨gg, 0, none⟩, gN, c9, n10, n11, n12, n13⟩; rwa [setCell_size] at this
  have HXV2 : RetBox ((w3.setCell ⟨gg, k, none⟩ (.int .i64 grade)).alloc (.cells #[.int .i64 n0, .int .i64 n1, .int .i64 n2, .int .i64 n3, .int .i64 n4, .bool n5, .int .i64 n6, .int .i64 n7, .slice a8 uN c8, .slice (some ⟨gg, 0, none⟩) gN c9, .int .i64 n10, .int .i64 n11, .int .i64 n12, .int .i64 n13] 32)) g2 32 ret0 := (HX23.out.upd (upd_set (p := gg) k _) (fun e => by have := HGG.out; omega)).below (upd_box _)
  have hu : Upd (fun q => q = gg) w3 ((w3.setCell ⟨gg, k, none⟩ (.int .i64 grade)).alloc (.cells #[.int .i64 n0, .int .i64 n1, .int .i64 n2, .int .i64 n3, .int .i64 n4, .bool n5, .int .i64 n6, .int .i64 n7, .slice a8 uN c8, .slice (some ⟨gg, 0, none⟩) gN c9, .int .i64 n10, .int .i64 n11, .int .i64 n12, .int .i64 n13] 32)) := ((Upd.refl (fun q => q = gg) w3).setCell (p := ⟨gg, k, none⟩) (.inl rfl) _).alloc _
  have hN8 : LiAt ((w3.setCell ⟨gg, k, none⟩ (.int .i64 grade)).alloc (.cells #[.int .i64 n0, .int .i64 n1, .int .i64 n2, .int .i64 n3, .int .i64 n4, .bool n5, .int .i64 n6, .int .i64 n7, .slice a8 uN c8, .slice (some ⟨gg, 0, none⟩) gN c9, .int .i64 n10, .int .i64 n11, .int .i64 n12, .int .i64 n13] 32)) a8 uN c8 us := HN8.out.li_upd hu (fun h0 b o e e' => HAP.out b o h0 e e')
  have hN9 : LiAt ((w3.setCell ⟨gg, k, none⟩ (.int .i64 grade)).alloc (.cells #[.int .i64 n0, .int .i64 n1, .int .i64 n2, .int .i64 n3, .int .i64 n4, .bool n5, .int .i64 n6, .int .i64 n7, .slice a8 uN c8, .slice (some ⟨gg, 0, none⟩) gN c9, .int .i64 n10, .int .i64 n11, .int .i64 n12, .int .i64 n13] 32)) (some ⟨gg, 0, none⟩) gN c9 (gs.set k grade) := set_li HCU.out.1 HCU.out.2 HGS.out HN9.out.cap HN9.out.most _ grade
  have HBV : Aside (Below w.heap.size w ((w3.setCell ⟨gg, k, none⟩ (.int .i64 grade)).alloc (.cells #[.int .i64 n0, .int .i64 n1, .int .i64 n2, .int .i64 n3, .int .i64 n4, .bool n5, .int .i64 n6, .int .i64 n7, .slice a8 uN c8, .slice (some ⟨gg, 0, none⟩) gN c9, .int .i64 n10, .int .i64 n11, .int .i64 n12, .int .i64 n13] 32))) := HB3.out.trans (hu.toBelow HB3.out.size (fun q hq e => by have := HGG.out; have := HLO.out; omega))
  have HSZ : Hid (w3.heap.size < ((w3.setCell ⟨gg, k, none⟩ (.int .i64 grade)).alloc (.cells #[.int .i64 n0, .int .i64 n1, .int .i64 n2, .int .i64 n3, .int .i64 n4, .bool n5, .int .i64 n6, .int .i64 n7, .slice a8 uN c8, .slice (some ⟨gg, 0, none⟩) gN c9, .int .i64 n10, .int .i64 n11, .int .i64 n12, .int .i64 n13] 32)).heap.size) := by show _ < _; simp
  have HN8' : Aside _ := hN8
  have HN9' : Aside _ := hN9
  have HX9' : Aside _ := HX9
  have HXV2' : Aside _ := HXV2
  clear hN8 hN9 HX9 HXV2 hu HN8 HN9 HCU HX23 hx0 hxf HAP HB3
  generalize (w3.setCell ⟨gg, k, none⟩ (.int .i64 grade)).alloc (.cells #[.int .i64 n0, .int .i64 n1, .int .i64 n2, .int .i64 n3, .int .i64 n4, .bool n5, .int .i64 n6, .int .i64 n7, .slice a8 uN c8, .slice (some ⟨gg, 0, none⟩) gN c9, .int .i64 n10, .int .i64 n11, .int .i64 n12, .int .i64 n13] 32) = V at *
  obtain ⟨g9, hg9⟩ : ∃ g, g = w3.heap.size := ⟨_, rfl⟩
  rw [← hg9] at HX9' ⊢
  have HG9 : Hid (w3.heap.size = g9) := hg9.symm
  clear hg9
  have HCV : Aside (∀ j v, (#[.int .i64 n0, .int .i64 n1, .int .i64 n2, .int .i64 n3, .int .i64 n4, .bool n5, .int .i64 n6, .int .i64 n7, .slice a8 uN c8, .slice (some ⟨gg, 0, none⟩) gN c9, .int .i64 n10, .int .i64 n11, .int .i64 n12, .int .i64 n13] : Array Value)[j]? = some v → V.cell? ⟨g9, 0 + j, none⟩ = some v) := HX9'.out.at_cells
  obtain ⟨z0, z1, z2, z3, z4, z5, z6, z7, z8, z9, z10, z11, z12, z13⟩ := HXV2'.out.cells
  have zf := HXV2'.out.fz
  have HF : Aside _ := set14_at HXV2'.out ⟨n0, n1, n2, n3, n4, n5, n6, n7, a8, uN, c8, some ⟨gg, 0, none⟩, gN, c9, n10, n11, n12, n13⟩
  have HFU : Aside _ := set14_upd V g2 ⟨n0, n1, n2, n3, n4, n5, n6, n7, a8, uN, c8, some ⟨gg, 0, none⟩, gN, c9, n10, n11, n12, n13⟩
  unfold set14 at HF HFU
  dsimp only at HF HFU
  have hLU := HFU.out
  clear HXV2' HX9'
  go_wp2_with (refine wpList_load_cells rfl 32 _ rfl g9 0 rfl _ _ HCV.out Tryd.underlying32 rfl (by kernel_rfl) ?_)
  refine bodyPost_ret (results_row_tmp rfl _ _ g2 32 #[.int .i64 n0, .int .i64 n1, .int .i64 n2, .int .i64 n3, .int .i64 n4, .bool n5, .int .i64 n6, .int .i64 n7, .slice a8 uN c8, .slice (some ⟨gg, 0, none⟩) gN c9, .int .i64 n10, .int .i64 n11, .int .i64 n12, .int .i64 n13] (0, 0) _ rfl HF.out.at' Tryd.underlying32 rfl info_ret) rfl ?_
  exact ⟨⟨a8, c8, some ⟨gg, 0, none⟩, c9, rfl, ⟨HN8'.out.upd0 hLU (fun h0 b o e e' => by have e2 : b = g2 := e'; have := HF8.out h0 b o e; have := HGG.out; omega), HN9'.out.upd0 hLU (fun h0 b o e e' => by
    injection e with e
    injection e with e
    have e2 : b = g2 := e'
    have := HGG.out
    omega)⟩⟩, HBV.out.trans (hLU.toBelow HBV.out.size (fun q hq e => by have := HLO.out; omega))⟩
end Go.Proofs.YtkjkamcjbhhefaaDoor
