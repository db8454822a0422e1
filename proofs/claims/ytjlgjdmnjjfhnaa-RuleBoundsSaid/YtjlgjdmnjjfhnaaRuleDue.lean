/-
  Package rule: what Worth answers. Conditions: those of each theorem.
-/
import Derived.Test.YtjlgjdmnjjfhnaaRuleCode
namespace Go.Proofs.Ytjlgjdmnjjfhnaa
open Go.RowKit
set_option maxRecDepth 100000

set_option maxHeartbeats 4000000 in
theorem due_rule (p : Pol) (s r g : Int) (hq : rightP p = false) (w : World) : Calls Try.prog 10 #[.agg p.arr, .int .i64 s, .int .i64 r, .int .i64 g] w fun e w' => e = .returned (.tuple #[.int .i64 0, .int .i64 10]) ∧ Below w.heap.size w w' := by
  have HPA : Aside (PolAt (w.alloc (.cells p.arr 27)) w.heap.size 0 p) := pol_new w p 27
  have HB : Aside (Below w.heap.size w (w.alloc (.cells p.arr 27))) := (Below.refl _ _).alloc (Nat.le_refl _) _
  have HR : Aside (∀ W, Calls _ _ _ W fun e w' => e = .returned (.bool false) ∧ Below W.heap.size W w') := fun W => by have := rule_isRight p W; rwa [hq] at this
  clear hq
  go_enter Try.func10, Try.ntmps10
  go_upto_region 1 with (fail)
  show Code.wp _ _ _ _ (w.alloc (.cells p.arr 27))
  generalize w.alloc (.cells p.arr 27) = w1 at *
  have hcs := HPA.out.cells
  go_wp2_with (refine wpList_load_cells rfl 27 _ rfl w.heap.size 0 rfl p.arr _ hcs Try.underlying27 rfl info_pol ?_)
  refine Calls.mono (HR.out _) ?_
  rintro e w2 ⟨rfl, b2⟩
  have HPB : Aside _ := HPA.out.grown b2
  have HB2 : Aside _ := HB.out.trans (b2.mono HB.out.size)
  clear hcs
  go_wp2
  go_ret2
  exact ⟨rfl, HB2.out⟩

set_option maxHeartbeats 4000000 in
theorem due_reason (p : Pol) (s r g : Int) (hq : rightP p = true) (hr : four r = false) (w : World) : Calls Try.prog 10 #[.agg p.arr, .int .i64 s, .int .i64 r, .int .i64 g] w fun e w' => e = .returned (.tuple #[.int .i64 0, .int .i64 1]) ∧ Below w.heap.size w w' := by
  have HPA : Aside (PolAt (w.alloc (.cells p.arr 27)) w.heap.size 0 p) := pol_new w p 27
  have HB : Aside (Below w.heap.size w (w.alloc (.cells p.arr 27))) := (Below.refl _ _).alloc (Nat.le_refl _) _
  have HR : Aside (∀ W, Calls _ _ _ W fun e w' => e = .returned (.bool true) ∧ Below W.heap.size W w') := fun W => by have := rule_isRight p W; rwa [hq] at this
  have HF : Aside (∀ W, Calls _ _ _ W fun e w' => e = .returned (.bool false) ∧ Below W.heap.size W w') := fun W => by have := rule_isReason p r W; rwa [hr] at this
  clear hq hr
  go_enter Try.func10, Try.ntmps10
  go_upto_region 1 with (fail)
  show Code.wp _ _ _ _ (w.alloc (.cells p.arr 27))
  generalize w.alloc (.cells p.arr 27) = w1 at *
  have hcs := HPA.out.cells
  go_wp2_with (refine wpList_load_cells rfl 27 _ rfl w.heap.size 0 rfl p.arr _ hcs Try.underlying27 rfl info_pol ?_)
  refine Calls.mono (HR.out _) ?_
  rintro e w2 ⟨rfl, b2⟩
  have HPB : Aside _ := HPA.out.grown b2
  have HB2 : Aside _ := HB.out.trans (b2.mono HB.out.size)
  clear hcs
  have hcs := HPB.out.cells
  go_wp2_with (refine wpList_load_cells rfl 27 _ rfl w.heap.size 0 rfl p.arr _ hcs Try.underlying27 rfl info_pol ?_)
  refine Calls.mono (HF.out _) ?_
  rintro e w3 ⟨rfl, b3⟩
  have HPC : Aside _ := HPB.out.grown b3
  have HB3 : Aside _ := HB2.out.trans (b3.mono HB2.out.size)
  clear hcs
  go_wp2
  go_ret2
  exact ⟨rfl, HB3.out⟩

set_option maxHeartbeats 4000000 in
theorem due_grade (p : Pol) (s r g : Int) (hq : rightP p = true) (hr : four r = true) (hg : four g = false) (w : World) : Calls Try.prog 10 #[.agg p.arr, .int .i64 s, .int .i64 r, .int .i64 g] w fun e w' => e = .returned (.tuple #[.int .i64 0, .int .i64 1]) ∧ Below w.heap.size w w' := by
  have HPA : Aside (PolAt (w.alloc (.cells p.arr 27)) w.heap.size 0 p) := pol_new w p 27
  have HB : Aside (Below w.heap.size w (w.alloc (.cells p.arr 27))) := (Below.refl _ _).alloc (Nat.le_refl _) _
  have HR : Aside (∀ W, Calls _ _ _ W fun e w' => e = .returned (.bool true) ∧ Below W.heap.size W w') := fun W => by have := rule_isRight p W; rwa [hq] at this
  have HF : Aside (∀ W, Calls _ _ _ W fun e w' => e = .returned (.bool true) ∧ Below W.heap.size W w') := fun W => by have := rule_isReason p r W; rwa [hr] at this
  have HG : Aside (∀ W, Calls _ _ _ W fun e w' => e = .returned (.bool false) ∧ Below W.heap.size W w') := fun W => by have := rule_isGrade p g W; rwa [hg] at this
  clear hq hr hg
  go_enter Try.func10, Try.ntmps10
  go_upto_region 1 with (fail)
  show Code.wp _ _ _ _ (w.alloc (.cells p.arr 27))
  generalize w.alloc (.cells p.arr 27) = w1 at *
  have hcs := HPA.out.cells
  go_wp2_with (refine wpList_load_cells rfl 27 _ rfl w.heap.size 0 rfl p.arr _ hcs Try.underlying27 rfl info_pol ?_)
  refine Calls.mono (HR.out _) ?_
  rintro e w2 ⟨rfl, b2⟩
  have HPB : Aside _ := HPA.out.grown b2
  have HB2 : Aside _ := HB.out.trans (b2.mono HB.out.size)
  clear hcs
  have hcs := HPB.out.cells
  go_wp2_with (refine wpList_load_cells rfl 27 _ rfl w.heap.size 0 rfl p.arr _ hcs Try.underlying27 rfl info_pol ?_)
  refine Calls.mono (HF.out _) ?_
  rintro e w3 ⟨rfl, b3⟩
  have HPC : Aside _ := HPB.out.grown b3
  have HB3 : Aside _ := HB2.out.trans (b3.mono HB2.out.size)
  clear hcs
  have hall := HPC.out.all
  simp only [Nat.zero_add] at hall
  obtain ⟨z0, z1, z2, z3, z4, z5, z6, z7, z8, z9, za, zb, zc, zd, ze, zf⟩ := hall
  go_wp2_with fail
  refine Calls.mono (HG.out _) ?_
  rintro e w4 ⟨rfl, b4⟩
  have HPD : Aside _ := HPC.out.grown b4
  have HB4 : Aside _ := HB3.out.trans (b4.mono HB3.out.size)
  clear z0 z1 z2 z3 z4 z5 z6 z7 z8 z9 za zb zc zd ze zf
  go_wp2
  go_ret2
  exact ⟨rfl, HB4.out⟩

set_option maxHeartbeats 4000000 in
theorem due_money (p : Pol) (s : Int) (kr kg : Nat) (hkr : kr < 4) (hkg : kg < 4) (hq : rightP p = true) (hr : four kr = true) (hg : four kg = true) (hs : sumB s = false) (w : World) : Calls Try.prog 10 #[.agg p.arr, .int .i64 s, .int .i64 kr, .int .i64 kg] w fun e w' => e = .returned (.tuple #[.int .i64 0, .int .i64 9]) ∧ Below w.heap.size w w' := by
  have HPA : Aside (PolAt (w.alloc (.cells p.arr 27)) w.heap.size 0 p) := pol_new w p 27
  have HB : Aside (Below w.heap.size w (w.alloc (.cells p.arr 27))) := (Below.refl _ _).alloc (Nat.le_refl _) _
  have HR : Aside (∀ W, Calls _ _ _ W fun e w' => e = .returned (.bool true) ∧ Below W.heap.size W w') := fun W => by have := rule_isRight p W; rwa [hq] at this
  have HF : Aside (∀ W, Calls _ _ _ W fun e w' => e = .returned (.bool true) ∧ Below W.heap.size W w') := fun W => by have := rule_isReason p kr W; rwa [hr] at this
  have HG : Aside (∀ W, Calls _ _ _ W fun e w' => e = .returned (.bool true) ∧ Below W.heap.size W w') := fun W => by have := rule_isGrade p kg W; rwa [hg] at this
  have hri : (kr : Int) < 4 := by omega
  have hgi : (kg : Int) < 4 := by omega
  have hRP := rightP_facts hq
  have hsh := hRP.share kg hkg
  have hfe := hRP.fee kr hkr
  have HPt : Aside (∀ W, _) := cents_points s (p.share kg) ⟨by omega, by omega⟩
  obtain ⟨e1, e2⟩ := part_nomoney (n := p.share kg) hs
  rw [e1, e2] at HPt
  clear hq hr hg hRP hsh hfe e1 e2 hs
  go_enter Try.func10, Try.ntmps10
  go_upto_region 1 with (fail)
  show Code.wp _ _ _ _ (w.alloc (.cells p.arr 27))
  generalize w.alloc (.cells p.arr 27) = w1 at *
  have hcs := HPA.out.cells
  go_wp2_with (refine wpList_load_cells rfl 27 _ rfl w.heap.size 0 rfl p.arr _ hcs Try.underlying27 rfl info_pol ?_)
  refine Calls.mono (HR.out _) ?_
  rintro e w2 ⟨rfl, b2⟩
  have HPB : Aside _ := HPA.out.grown b2
  have HB2 : Aside _ := HB.out.trans (b2.mono HB.out.size)
  clear hcs
  have hcs := HPB.out.cells
  go_wp2_with (refine wpList_load_cells rfl 27 _ rfl w.heap.size 0 rfl p.arr _ hcs Try.underlying27 rfl info_pol ?_)
  refine Calls.mono (HF.out _) ?_
  rintro e w3 ⟨rfl, b3⟩
  have HPC : Aside _ := HPB.out.grown b3
  have HB3 : Aside _ := HB2.out.trans (b3.mono HB2.out.size)
  clear hcs
  have hall := HPC.out.all
  simp only [Nat.zero_add] at hall
  obtain ⟨z0, z1, z2, z3, z4, z5, z6, z7, z8, z9, za, zb, zc, zd, ze, zf⟩ := hall
  go_wp2_with fail
  refine Calls.mono (HG.out _) ?_
  rintro e w4 ⟨rfl, b4⟩
  have HPD : Aside _ := HPC.out.grown b4
  have HB4 : Aside _ := HB3.out.trans (b4.mono HB3.out.size)
  clear z0 z1 z2 z3 z4 z5 z6 z7 z8 z9 za zb zc zd ze zf
  have c2 := HPD.out.share kg hkg
  go_wp2_with fail
  refine Calls.mono (HPt.out _) ?_
  rintro e w5 ⟨rfl, b5⟩
  have HB5 : Aside _ := HB4.out.trans (b5.mono HB4.out.size)
  go_wp2
  go_ret2
  exact ⟨rfl, HB5.out⟩

set_option maxHeartbeats 4000000 in
theorem due_ok (p : Pol) (s : Int) (kr kg : Nat) (hkr : kr < 4) (hkg : kg < 4) (hq : rightP p = true) (hr : four kr = true) (hg : four kg = true) (hs : sumB s = true) (w : World) : Calls Try.prog 10 #[.agg p.arr, .int .i64 s, .int .i64 kr, .int .i64 kg] w fun e w' => e = .returned (.tuple #[.int .i64 (partV s (p.share kg) 10000 - partV (partV s (p.share kg) 10000) (p.fee kr) 10000), .int .i64 0]) ∧ Below w.heap.size w w' := by
  have HPA : Aside (PolAt (w.alloc (.cells p.arr 27)) w.heap.size 0 p) := pol_new w p 27
  have HB : Aside (Below w.heap.size w (w.alloc (.cells p.arr 27))) := (Below.refl _ _).alloc (Nat.le_refl _) _
  have HR : Aside (∀ W, Calls _ _ _ W fun e w' => e = .returned (.bool true) ∧ Below W.heap.size W w') := fun W => by have := rule_isRight p W; rwa [hq] at this
  have HF : Aside (∀ W, Calls _ _ _ W fun e w' => e = .returned (.bool true) ∧ Below W.heap.size W w') := fun W => by have := rule_isReason p kr W; rwa [hr] at this
  have HG : Aside (∀ W, Calls _ _ _ W fun e w' => e = .returned (.bool true) ∧ Below W.heap.size W w') := fun W => by have := rule_isGrade p kg W; rwa [hg] at this
  have hri : (kr : Int) < 4 := by omega
  have hgi : (kg : Int) < 4 := by omega
  have hRP := rightP_facts hq
  have hsh := hRP.share kg hkg
  have hfe := hRP.fee kr hkr
  have HPt : Aside (∀ W, _) := cents_points s (p.share kg) ⟨by omega, by omega⟩
  have hbw := worth_bounds hRP hs hkr hkg
  have hs0 := of_decide_eq_true hs
  have hs1 := of_decide_eq_true hbw.2.2
  obtain ⟨e1, -, -⟩ := part_points hs hsh
  obtain ⟨e2, e3, e4⟩ := part_points hbw.2.2 hfe
  have HFe : Aside (∀ W, _) := rule_fee p (partV s (p.share kg) 10000) kr
  have hF1 : feeV p (partV s (p.share kg) 10000) kr = partV (partV s (p.share kg) 10000) (p.fee kr) 10000 := by unfold feeV; rw [hq, hr]; rfl
  have hF2 : feeE p (partV s (p.share kg) 10000) kr = 0 := by unfold feeE; rw [hq, hr, hbw.2.2]; rfl
  rw [e1] at HPt
  rw [hF1, hF2] at HFe
  have HSub : Aside (∀ W, _) := cents_sub (partV s (p.share kg) 10000) (partV (partV s (p.share kg) 10000) (p.fee kr) 10000)
  rw [rt_iff.2 ⟨by omega, by omega⟩, rt_iff.2 ⟨by omega, by omega⟩, told_yes (by rw [rt_iff.2 ⟨by omega, by omega⟩]; rfl)] at HSub
  clear hq hr hg hRP hsh hfe e1 e2 e3 e4 hs hbw hs0 hs1 hF1 hF2
  generalize partV (partV s (p.share kg) 10000) (p.fee kr) 10000 = v2 at *
  generalize partV s (p.share kg) 10000 = v1 at *
  go_enter Try.func10, Try.ntmps10
  go_upto_region 1 with (fail)
  show Code.wp _ _ _ _ (w.alloc (.cells p.arr 27))
  generalize w.alloc (.cells p.arr 27) = w1 at *
  have hcs := HPA.out.cells
  go_wp2_with (refine wpList_load_cells rfl 27 _ rfl w.heap.size 0 rfl p.arr _ hcs Try.underlying27 rfl info_pol ?_)
  refine Calls.mono (HR.out _) ?_
  rintro e w2 ⟨rfl, b2⟩
  have HPB : Aside _ := HPA.out.grown b2
  have HB2 : Aside _ := HB.out.trans (b2.mono HB.out.size)
  clear hcs
  have hcs := HPB.out.cells
  go_wp2_with (refine wpList_load_cells rfl 27 _ rfl w.heap.size 0 rfl p.arr _ hcs Try.underlying27 rfl info_pol ?_)
  refine Calls.mono (HF.out _) ?_
  rintro e w3 ⟨rfl, b3⟩
  have HPC : Aside _ := HPB.out.grown b3
  have HB3 : Aside _ := HB2.out.trans (b3.mono HB2.out.size)
  clear hcs
  have hall := HPC.out.all
  simp only [Nat.zero_add] at hall
  obtain ⟨z0, z1, z2, z3, z4, z5, z6, z7, z8, z9, za, zb, zc, zd, ze, zf⟩ := hall
  go_wp2_with fail
  refine Calls.mono (HG.out _) ?_
  rintro e w4 ⟨rfl, b4⟩
  have HPD : Aside _ := HPC.out.grown b4
  have HB4 : Aside _ := HB3.out.trans (b4.mono HB3.out.size)
  clear z0 z1 z2 z3 z4 z5 z6 z7 z8 z9 za zb zc zd ze zf
  have c2 := HPD.out.share kg hkg
  go_wp2_with fail
  refine Calls.mono (HPt.out _) ?_
  rintro e w5 ⟨rfl, b5⟩
  have HPE : Aside _ := HPD.out.grown b5
  have HB5 : Aside _ := HB4.out.trans (b5.mono HB4.out.size)
  clear c2
  have hcs := HPE.out.cells
  go_wp2_with (refine wpList_load_cells rfl 27 _ rfl w.heap.size 0 rfl p.arr _ hcs Try.underlying27 rfl info_pol ?_)
  refine Calls.mono (HFe.out _) ?_
  rintro e w6 ⟨rfl, b6⟩
  have HB6 : Aside _ := HB5.out.trans (b6.mono HB5.out.size)
  clear hcs
  go_wp2_with fail
  refine Calls.mono (HSub.out _) ?_
  rintro e w7 ⟨rfl, rfl⟩
  go_wp2
  go_ret2
  exact ⟨rfl, HB6.out⟩

theorem rule_worth (p : Pol) (s r g : Int) (w : World) : Calls Try.prog 10 #[.agg p.arr, .int .i64 s, .int .i64 r, .int .i64 g] w fun e w' => e = .returned (.tuple #[.int .i64 (worthV p s r g), .int .i64 (worthE p s r g)]) ∧ Below w.heap.size w w' := by
  cases hq : rightP p with
  | false =>
    have hV : worthV p s r g = 0 := by unfold worthV; rw [hq]; rfl
    have hE : worthE p s r g = 10 := by unfold worthE; rw [hq]; rfl
    rw [hV, hE]
    exact due_rule p s r g hq w
  | true =>
    cases hr : four r with
    | false =>
      have hV : worthV p s r g = 0 := by unfold worthV; rw [hq, hr]; rfl
      have hE : worthE p s r g = 1 := by unfold worthE; rw [hq, hr]; rfl
      rw [hV, hE]
      exact due_reason p s r g hq hr w
    | true =>
      cases hg : four g with
      | false =>
        have hV : worthV p s r g = 0 := by unfold worthV; rw [hq, hr, hg]; rfl
        have hE : worthE p s r g = 1 := by unfold worthE; rw [hq, hr, hg]; rfl
        rw [hV, hE]
        exact due_grade p s r g hq hr hg w
      | true =>
        obtain ⟨kr, rfl, hkr⟩ := four_nat hr
        obtain ⟨kg, rfl, hkg⟩ := four_nat hg
        cases hs : sumB s with
        | false =>
          have hV : worthV p s kr kg = 0 := by unfold worthV; rw [hq, hr, hg, hs]; rfl
          have hE : worthE p s kr kg = 9 := by unfold worthE; rw [hq, hr, hg, hs]; rfl
          rw [hV, hE]
          exact due_money p s kr kg hkr hkg hq hr hg hs w
        | true =>
          have hV : worthV p s kr kg = partV s (p.share kg) 10000 - partV (partV s (p.share kg) 10000) (p.fee kr) 10000 := by unfold worthV; rw [hq, hr, hg, hs]; rfl
          have hE : worthE p s kr kg = 0 := by unfold worthE; rw [hq, hr, hg, hs]; rfl
          rw [hV, hE]
          exact due_ok p s kr kg hkr hkg hq hr hg hs w
end Go.Proofs.Ytjlgjdmnjjfhnaa
