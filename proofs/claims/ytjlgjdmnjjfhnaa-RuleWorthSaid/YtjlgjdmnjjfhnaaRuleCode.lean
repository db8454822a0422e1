/-
  Package rule: what its calls answer: May, To, Fee, Worth. Conditions: those of each theorem.
-/
import Derived.Test.YtjlgjdmnjjfhnaaRule
import Derived.Test.YtjlgjdmnjjfhnaaTabWrong
import Derived.Test.YtjlgjdmnjjfhnaaPurseSub
namespace Go.Proofs.Ytjlgjdmnjjfhnaa
open Go.RowKit
set_option maxRecDepth 100000

theorem pols_one (w : World) (p : Pol) (t : TypeId) : PolsAt (w.alloc (.cells p.arr t)) (some ⟨w.heap.size, 0, none⟩) [p] :=
  .inr ⟨w.heap.size, 0, rfl, by simp, fun i hi => by
    obtain rfl : i = 0 := by simpa using hi
    exact pol_new w p t⟩
theorem right_one (p : Pol) : rightT [p] = rightP p := by simp [rightT]

set_option maxHeartbeats 1000000 in
theorem rule_isRight (p : Pol) (w : World) : Calls Try.prog 16 #[.agg p.arr] w fun e w' => e = .returned (.bool (rightP p)) ∧ Below w.heap.size w w' := by
  have hpo := pol_new w p 27
  have HB : Aside (Below w.heap.size w (w.alloc (.cells p.arr 27))) := (Below.refl _ _).alloc (Nat.le_refl _) _
  have hall := hpo.all
  simp only [Nat.zero_add] at hall
  obtain ⟨z0, z1, z2, z3, z4, z5, z6, z7, z8, z9, za, zb, zc, zd, ze, zf⟩ := hall
  clear hpo
  go_enter Try.func16, Try.ntmps16
  go_upto_region 1 with (fail)
  show Code.wp _ _ _ _ (w.alloc (.cells p.arr 27))
  generalize w.alloc (.cells p.arr 27) = w1 at *
  have HR : Aside _ := table_right (some ⟨w1.heap.size, 0, none⟩) [p] 1 1 (w1.alloc (.cells p.arr 27)) rfl (pols_one w1 p _) (by unfold maxLen; omega)
  rw [right_one] at HR
  have HB1 : Aside (Below w.heap.size w (w1.alloc (.cells p.arr 27))) := HB.out.alloc HB.out.size _
  go_wp2_with fail
  refine Calls.mono HR.out ?_
  rintro e w2 ⟨rfl, b2⟩
  have HB2 : Aside _ := HB1.out.trans (b2.mono HB1.out.size)
  clear z0 z1 z2 z3 z4 z5 z6 z7 z8 z9 za zb zc zd ze zf
  go_wp2
  go_ret
  exact ⟨rfl, HB2.out⟩

set_option maxHeartbeats 1000000 in
theorem rule_isReason (p : Pol) (v : Int) (w : World) : Calls Try.prog 17 #[.agg p.arr, .int .i64 v] w fun e w' => e = .returned (.bool (four v)) ∧ Below w.heap.size w w' := by
  have HB : Aside (Below w.heap.size w (w.alloc (.cells p.arr 27))) := (Below.refl _ _).alloc (Nat.le_refl _) _
  have HF : Hid (four v = decide (0 ≤ v ∧ v < 4)) := rfl
  generalize four v = q at *
  by_cases h1 : 0 ≤ v
  · by_cases h2 : v < 4
    · have hq := HF.out
      rw [decide_eq_true ⟨h1, h2⟩] at hq
      subst hq
      clear HF
      go_enter Try.func17, Try.ntmps17
      go_upto_region 1 with (fail)
      show Code.wp _ _ _ _ (w.alloc (.cells p.arr 27))
      generalize w.alloc (.cells p.arr 27) = w1 at *
      go_wp2
      go_ret
      exact ⟨rfl, HB.out⟩
    · have hq := HF.out
      rw [decide_eq_false (fun h => h2 h.2)] at hq
      subst hq
      clear HF
      go_enter Try.func17, Try.ntmps17
      go_upto_region 1 with (fail)
      show Code.wp _ _ _ _ (w.alloc (.cells p.arr 27))
      generalize w.alloc (.cells p.arr 27) = w1 at *
      go_wp2
      go_ret
      exact ⟨rfl, HB.out⟩
  · have hq := HF.out
    rw [decide_eq_false (fun h => h1 h.1)] at hq
    subst hq
    clear HF
    go_enter Try.func17, Try.ntmps17
    go_upto_region 1 with (fail)
    show Code.wp _ _ _ _ (w.alloc (.cells p.arr 27))
    generalize w.alloc (.cells p.arr 27) = w1 at *
    go_wp2
    go_ret
    exact ⟨rfl, HB.out⟩

set_option maxHeartbeats 1000000 in
theorem rule_isGrade (p : Pol) (v : Int) (w : World) : Calls Try.prog 18 #[.agg p.arr, .int .i64 v] w fun e w' => e = .returned (.bool (four v)) ∧ Below w.heap.size w w' := by
  have HB : Aside (Below w.heap.size w (w.alloc (.cells p.arr 27))) := (Below.refl _ _).alloc (Nat.le_refl _) _
  have HF : Hid (four v = decide (0 ≤ v ∧ v < 4)) := rfl
  generalize four v = q at *
  by_cases h1 : 0 ≤ v
  · by_cases h2 : v < 4
    · have hq := HF.out
      rw [decide_eq_true ⟨h1, h2⟩] at hq
      subst hq
      clear HF
      go_enter Try.func18, Try.ntmps18
      go_upto_region 1 with (fail)
      show Code.wp _ _ _ _ (w.alloc (.cells p.arr 27))
      generalize w.alloc (.cells p.arr 27) = w1 at *
      go_wp2
      go_ret
      exact ⟨rfl, HB.out⟩
    · have hq := HF.out
      rw [decide_eq_false (fun h => h2 h.2)] at hq
      subst hq
      clear HF
      go_enter Try.func18, Try.ntmps18
      go_upto_region 1 with (fail)
      show Code.wp _ _ _ _ (w.alloc (.cells p.arr 27))
      generalize w.alloc (.cells p.arr 27) = w1 at *
      go_wp2
      go_ret
      exact ⟨rfl, HB.out⟩
  · have hq := HF.out
    rw [decide_eq_false (fun h => h1 h.1)] at hq
    subst hq
    clear HF
    go_enter Try.func18, Try.ntmps18
    go_upto_region 1 with (fail)
    show Code.wp _ _ _ _ (w.alloc (.cells p.arr 27))
    generalize w.alloc (.cells p.arr 27) = w1 at *
    go_wp2
    go_ret
    exact ⟨rfl, HB.out⟩

set_option maxHeartbeats 2000000 in
theorem rule_may (p : Pol) (d : Int) (wants : Bool) (w : World) : Calls Try.prog 8 #[.agg p.arr, .int .i64 d, .bool wants] w fun e w' => e = .returned (.int .i64 (mayE p d wants)) ∧ Below w.heap.size w w' := by
  have hp := pol_new w p 27
  have HB : Aside (Below w.heap.size w (w.alloc (.cells p.arr 27))) := (Below.refl _ _).alloc (Nat.le_refl _) _
  have hall := hp.all
  simp only [Nat.zero_add] at hall
  obtain ⟨z0, z1, z2, z3, z4, z5, z6, z7, z8, z9, za, zb, zc, zd, ze, zf⟩ := hall
  have HM : Hid (mayE p d wants = if rightP p then (if p.fin || p.exc && !wants then 12 else if decide (0 ≤ d ∧ d ≤ p.win) then 0 else 11) else 10) := rfl
  generalize mayE p d wants = E at *
  have HR : Aside (∀ W, _) := rule_isRight p
  clear hp
  go_enter Try.func8, Try.ntmps8
  go_upto_region 1 with (fail)
  show Code.wp _ _ _ _ (w.alloc (.cells p.arr 27))
  generalize w.alloc (.cells p.arr 27) = w1 at *
  have HW : Hid (∀ (o : Nat) (v : Value) (w' : World), w1.cell? ⟨w.heap.size, o, none⟩ = some v → Below w1.heap.size w1 w' → w'.cell? ⟨w.heap.size, o, none⟩ = some v) := fun o v w' h hb => (hb.cell (p := ⟨w.heap.size, o, none⟩) (World.block_lt_of_cell? _ _ h)).trans h
  go_wp2_with fail
  refine Calls.mono (HR.out _) ?_
  rintro e w2 ⟨rfl, b2⟩
  have y0 := HW.out _ _ _ z0 b2
  have y1 := HW.out _ _ _ z1 b2
  have y2 := HW.out _ _ _ z2 b2
  have HB2 : Aside _ := HB.out.trans (b2.mono HB.out.size)
  clear z0 z1 z2 z3 z4 z5 z6 z7 z8 z9 za zb zc zd ze zf HR HW b2
  generalize p.fin = f1 at *
  generalize p.exc = f2 at *
  generalize p.win = v at *
  generalize rightP p = q at *
  cases q with
  | false =>
    obtain rfl : E = 10 := HM.out
    go_wp2
    go_ret
    exact ⟨rfl, HB2.out⟩
  | true =>
    cases hq : (f1 || f2 && !wants) with
    | true =>
      have hE := HM.out
      rw [hq] at hE
      obtain rfl : E = 12 := hE
      clear HM
      cases f1 <;> cases f2 <;> cases wants <;> first | (exfalso; revert hq; decide) | (clear hq; go_wp2; go_ret; exact ⟨rfl, HB2.out⟩)
    | false =>
      have hE := HM.out
      rw [hq] at hE
      clear HM
      by_cases h1 : 0 ≤ d
      · by_cases h2 : d ≤ v
        · rw [decide_eq_true ⟨h1, h2⟩] at hE
          obtain rfl : E = 0 := hE
          cases f1 <;> cases f2 <;> cases wants <;> first | (exfalso; revert hq; decide) | (clear hq; go_wp2; go_ret; exact ⟨rfl, HB2.out⟩)
        · rw [decide_eq_false (fun h => h2 h.2)] at hE
          obtain rfl : E = 11 := hE
          cases f1 <;> cases f2 <;> cases wants <;> first | (exfalso; revert hq; decide) | (clear hq; go_wp2; go_ret; exact ⟨rfl, HB2.out⟩)
      · rw [decide_eq_false (fun h => h1 h.1)] at hE
        obtain rfl : E = 11 := hE
        cases f1 <;> cases f2 <;> cases wants <;> first | (exfalso; revert hq; decide) | (clear hq; go_wp2; go_ret; exact ⟨rfl, HB2.out⟩)

set_option maxHeartbeats 2000000 in
theorem rule_to (p : Pol) (g : Int) (w : World) : Calls Try.prog 12 #[.agg p.arr, .int .i64 g] w fun e w' => e = .returned (.tuple #[.int .i64 (toV p g), .int .i64 (toE p g)]) ∧ Below w.heap.size w w' := by
  have HPA : Aside (PolAt (w.alloc (.cells p.arr 27)) w.heap.size 0 p) := pol_new w p 27
  have HB : Aside (Below w.heap.size w (w.alloc (.cells p.arr 27))) := (Below.refl _ _).alloc (Nat.le_refl _) _
  cases hq : rightP p with
  | false =>
    have hV : toV p g = 0 := by unfold toV; rw [hq]; rfl
    have hE : toE p g = 10 := by unfold toE; rw [hq]; rfl
    rw [hV, hE]
    have HR : Aside (∀ W, Calls _ _ _ W fun e w' => e = .returned (.bool false) ∧ Below W.heap.size W w') := fun W => by have := rule_isRight p W; rwa [hq] at this
    clear hq hV hE
    go_enter Try.func12, Try.ntmps12
    go_upto_region 1 with (fail)
    show Code.wp _ _ _ _ (w.alloc (.cells p.arr 27))
    generalize w.alloc (.cells p.arr 27) = w1 at *
    have hcs := HPA.out.cells
    go_wp2_with (refine wpList_load_cells rfl 27 _ rfl w.heap.size 0 rfl p.arr _ hcs Try.underlying27 rfl info_pol ?_)
    refine Calls.mono (HR.out _) ?_
    rintro e w2 ⟨rfl, b2⟩
    have HPB : Aside _ := HPA.out.grown b2
    have HB2 : Aside _ := HB.out.trans (b2.mono HB.out.size)
    clear hcs
    go_wp2
    go_ret2
    exact ⟨rfl, HB2.out⟩
  | true =>
    have HR : Aside (∀ W, Calls _ _ _ W fun e w' => e = .returned (.bool true) ∧ Below W.heap.size W w') := fun W => by have := rule_isRight p W; rwa [hq] at this
    cases hg : four g with
    | false =>
      have hV : toV p g = 0 := by unfold toV; rw [hq, hg]; rfl
      have hE : toE p g = 1 := by unfold toE; rw [hq, hg]; rfl
      rw [hV, hE]
      have HG : Aside (∀ W, Calls _ _ _ W fun e w' => e = .returned (.bool false) ∧ Below W.heap.size W w') := fun W => by have := rule_isGrade p g W; rwa [hg] at this
      clear hq hV hE hg
      go_enter Try.func12, Try.ntmps12
      go_upto_region 1 with (fail)
      show Code.wp _ _ _ _ (w.alloc (.cells p.arr 27))
      generalize w.alloc (.cells p.arr 27) = w1 at *
      have hcs := HPA.out.cells
      go_wp2_with (refine wpList_load_cells rfl 27 _ rfl w.heap.size 0 rfl p.arr _ hcs Try.underlying27 rfl info_pol ?_)
      refine Calls.mono (HR.out _) ?_
      rintro e w2 ⟨rfl, b2⟩
      have HPB : Aside _ := HPA.out.grown b2
      have HB2 : Aside _ := HB.out.trans (b2.mono HB.out.size)
      clear hcs
      have hcs := HPB.out.cells
      go_wp2_with (refine wpList_load_cells rfl 27 _ rfl w.heap.size 0 rfl p.arr _ hcs Try.underlying27 rfl info_pol ?_)
      refine Calls.mono (HG.out _) ?_
      rintro e w3 ⟨rfl, b3⟩
      have HPC : Aside _ := HPB.out.grown b3
      have HB3 : Aside _ := HB2.out.trans (b3.mono HB2.out.size)
      clear hcs
      go_wp2
      go_ret2
      exact ⟨rfl, HB3.out⟩
    | true =>
      obtain ⟨k, rfl, hk⟩ := four_nat hg
      have hk' : (k : Int) < 4 := by omega
      have hV : toV p k = p.dest k := by unfold toV; rw [hq, hg]; rfl
      have hE : toE p k = 0 := by unfold toE; rw [hq, hg]; rfl
      rw [hV, hE]
      have HG : Aside (∀ W, Calls _ _ _ W fun e w' => e = .returned (.bool true) ∧ Below W.heap.size W w') := fun W => by have := rule_isGrade p k W; rwa [hg] at this
      clear hq hV hE hg
      go_enter Try.func12, Try.ntmps12
      go_upto_region 1 with (fail)
      show Code.wp _ _ _ _ (w.alloc (.cells p.arr 27))
      generalize w.alloc (.cells p.arr 27) = w1 at *
      have hcs := HPA.out.cells
      go_wp2_with (refine wpList_load_cells rfl 27 _ rfl w.heap.size 0 rfl p.arr _ hcs Try.underlying27 rfl info_pol ?_)
      refine Calls.mono (HR.out _) ?_
      rintro e w2 ⟨rfl, b2⟩
      have HPB : Aside _ := HPA.out.grown b2
      have HB2 : Aside _ := HB.out.trans (b2.mono HB.out.size)
      clear hcs
      have hcs := HPB.out.cells
      go_wp2_with (refine wpList_load_cells rfl 27 _ rfl w.heap.size 0 rfl p.arr _ hcs Try.underlying27 rfl info_pol ?_)
      refine Calls.mono (HG.out _) ?_
      rintro e w3 ⟨rfl, b3⟩
      have HPC : Aside _ := HPB.out.grown b3
      have HB3 : Aside _ := HB2.out.trans (b3.mono HB2.out.size)
      clear hcs
      have cd := HPC.out.dest k hk
      go_wp2
      go_ret2
      exact ⟨rfl, HB3.out⟩

set_option maxHeartbeats 2000000 in
theorem rule_fee (p : Pol) (s r : Int) (w : World) : Calls Try.prog 11 #[.agg p.arr, .int .i64 s, .int .i64 r] w fun e w' => e = .returned (.tuple #[.int .i64 (feeV p s r), .int .i64 (feeE p s r)]) ∧ Below w.heap.size w w' := by
  have HPA : Aside (PolAt (w.alloc (.cells p.arr 27)) w.heap.size 0 p) := pol_new w p 27
  have HB : Aside (Below w.heap.size w (w.alloc (.cells p.arr 27))) := (Below.refl _ _).alloc (Nat.le_refl _) _
  cases hq : rightP p with
  | false =>
    have hV : feeV p s r = 0 := by unfold feeV; rw [hq]; rfl
    have hE : feeE p s r = 10 := by unfold feeE; rw [hq]; rfl
    rw [hV, hE]
    have HR : Aside (∀ W, Calls _ _ _ W fun e w' => e = .returned (.bool false) ∧ Below W.heap.size W w') := fun W => by have := rule_isRight p W; rwa [hq] at this
    clear hq hV hE
    go_enter Try.func11, Try.ntmps11
    go_upto_region 1 with (fail)
    show Code.wp _ _ _ _ (w.alloc (.cells p.arr 27))
    generalize w.alloc (.cells p.arr 27) = w1 at *
    have hcs := HPA.out.cells
    go_wp2_with (refine wpList_load_cells rfl 27 _ rfl w.heap.size 0 rfl p.arr _ hcs Try.underlying27 rfl info_pol ?_)
    refine Calls.mono (HR.out _) ?_
    rintro e w2 ⟨rfl, b2⟩
    have HPB : Aside _ := HPA.out.grown b2
    have HB2 : Aside _ := HB.out.trans (b2.mono HB.out.size)
    clear hcs
    go_wp2
    go_ret2
    exact ⟨rfl, HB2.out⟩
  | true =>
    have HR : Aside (∀ W, Calls _ _ _ W fun e w' => e = .returned (.bool true) ∧ Below W.heap.size W w') := fun W => by have := rule_isRight p W; rwa [hq] at this
    cases hf : four r with
    | false =>
      have hV : feeV p s r = 0 := by unfold feeV; rw [hq, hf]; rfl
      have hE : feeE p s r = 1 := by unfold feeE; rw [hq, hf]; rfl
      rw [hV, hE]
      have HF : Aside (∀ W, Calls _ _ _ W fun e w' => e = .returned (.bool false) ∧ Below W.heap.size W w') := fun W => by have := rule_isReason p r W; rwa [hf] at this
      clear hq hV hE hf
      go_enter Try.func11, Try.ntmps11
      go_upto_region 1 with (fail)
      show Code.wp _ _ _ _ (w.alloc (.cells p.arr 27))
      generalize w.alloc (.cells p.arr 27) = w1 at *
      have hcs := HPA.out.cells
      go_wp2_with (refine wpList_load_cells rfl 27 _ rfl w.heap.size 0 rfl p.arr _ hcs Try.underlying27 rfl info_pol ?_)
      refine Calls.mono (HR.out _) ?_
      rintro e w2 ⟨rfl, b2⟩
      have HPB : Aside _ := HPA.out.grown b2
      have HB2 : Aside _ := HB.out.trans (b2.mono HB.out.size)
      clear hcs
      have hcs := HPB.out.cells
      go_wp2_with (refine wpList_load_cells rfl 27 _ rfl w.heap.size 0 rfl p.arr _ hcs Try.underlying27 rfl info_pol ?_)
      refine Calls.mono (HF.out _) ?_
      rintro e w3 ⟨rfl, b3⟩
      have HPC : Aside _ := HPB.out.grown b3
      have HB3 : Aside _ := HB2.out.trans (b3.mono HB2.out.size)
      clear hcs
      go_wp2
      go_ret2
      exact ⟨rfl, HB3.out⟩
    | true =>
      obtain ⟨k, rfl, hk⟩ := four_nat hf
      have hfe := (rightP_facts hq).fee k hk
      have hV : feeV p s k = partV s (p.fee k) 10000 := by unfold feeV; rw [hq, hf]; rfl
      have hE : feeE p s k = partE s (p.fee k) 10000 := by
        unfold feeE; rw [hq, hf]
        cases hs : sumB s with
        | true => exact (part_points hs hfe).1.symm
        | false => exact (part_nomoney hs).1.symm
      rw [hV, hE]
      have hk' : (k : Int) < 4 := by omega
      have HF : Aside (∀ W, Calls _ _ _ W fun e w' => e = .returned (.bool true) ∧ Below W.heap.size W w') := fun W => by have := rule_isReason p k W; rwa [hf] at this
      have HPt : Aside (∀ W, _) := cents_points s (p.fee k) ⟨by omega, by omega⟩
      generalize partV s (p.fee k) 10000 = V at *
      generalize partE s (p.fee k) 10000 = E at *
      clear hq hV hE hf hfe
      go_enter Try.func11, Try.ntmps11
      go_upto_region 1 with (fail)
      show Code.wp _ _ _ _ (w.alloc (.cells p.arr 27))
      generalize w.alloc (.cells p.arr 27) = w1 at *
      have hcs := HPA.out.cells
      go_wp2_with (refine wpList_load_cells rfl 27 _ rfl w.heap.size 0 rfl p.arr _ hcs Try.underlying27 rfl info_pol ?_)
      refine Calls.mono (HR.out _) ?_
      rintro e w2 ⟨rfl, b2⟩
      have HPB : Aside _ := HPA.out.grown b2
      have HB2 : Aside _ := HB.out.trans (b2.mono HB.out.size)
      clear hcs
      have hcs := HPB.out.cells
      go_wp2_with (refine wpList_load_cells rfl 27 _ rfl w.heap.size 0 rfl p.arr _ hcs Try.underlying27 rfl info_pol ?_)
      refine Calls.mono (HF.out _) ?_
      rintro e w3 ⟨rfl, b3⟩
      have HPC : Aside _ := HPB.out.grown b3
      have HB3 : Aside _ := HB2.out.trans (b3.mono HB2.out.size)
      clear hcs
      have cf := HPC.out.fee k hk
      go_wp2_with fail
      refine Calls.mono (HPt.out _) ?_
      rintro e w4 ⟨rfl, b4⟩
      have HB4 : Aside _ := HB3.out.trans (b4.mono HB3.out.size)
      go_wp2
      go_ret2
      exact ⟨rfl, HB4.out⟩
end Go.Proofs.Ytjlgjdmnjjfhnaa
