/-
  RmaEqual: returns are told to be alike just if they are; a clone is; tied to the program's text. No conditions: every input.
-/
import Derived.Test.YtkjkamcjbhhefaaDoorRmNext
import Derived.Test.YtkjkamcjbhhefaaDoorRmLaw
import Derived.Test.YtkjkamcjbhhefaaDoorRmHolds
import Derived.Test.YtkjkamcjbhhefaaDoorCards
import Derived.Test.YtkjkamcjbhhefaaDoorTie
import Derived.Lib.SmallJoins
import Derived.SevenTiedAt
namespace Go.Proofs.YtkjkamcjbhhefaaDoor
open Go.RowKit Go.WideShapes
set_option maxRecDepth 100000

set_option maxHeartbeats 8000000 in
theorem rmaEqual_law (R : Ret) (us gs : List Int) (S : Ret) (vs hs : List Int) (w : World) (hS : StepsAt w) (hR : RetAt w R us gs) (_ : Fit64 R us gs) (hQ : RetAt w S vs hs) (_ : Fit64 S vs hs) :
    Calls Tryd.prog 8 #[.agg #[.int .i64 R.num, .int .i64 R.ord, .int .i64 R.rea, .int .i64 R.want, .int .i64 R.res, .bool R.cred, .int .i64 R.st, .int .i64 R.day, .slice R.uA R.uN R.uC, .slice R.gA R.gN R.gC, .int .i64 R.wor, .int .i64 R.pai, .int .i64 R.cre, .int .i64 R.giv], .agg #[.int .i64 S.num, .int .i64 S.ord, .int .i64 S.rea, .int .i64 S.want, .int .i64 S.res, .bool S.cred, .int .i64 S.st, .int .i64 S.day, .slice S.uA S.uN S.uC, .slice S.gA S.gN S.gC, .int .i64 S.wor, .int .i64 S.pai, .int .i64 S.cre, .int .i64 S.giv]] w fun e w' => e = .returned (.bool true) ∧ Below w.heap.size w w' := by
  have HFR : Aside (∀ w, Calls Tryd.prog 13 #[.agg #[.int .i64 R.num, .int .i64 R.ord, .int .i64 R.rea, .int .i64 R.want, .int .i64 R.res, .bool R.cred, .int .i64 R.st, .int .i64 R.day, .slice R.uA R.uN R.uC, .slice R.gA R.gN R.gC, .int .i64 R.wor, .int .i64 R.pai, .int .i64 R.cre, .int .i64 R.giv]] w fun e w' => e = .returned (.bool (fewB R)) ∧ Below w.heap.size w w') := law_few R
  have HFS : Aside (∀ w, Calls Tryd.prog 13 #[.agg #[.int .i64 S.num, .int .i64 S.ord, .int .i64 S.rea, .int .i64 S.want, .int .i64 S.res, .bool S.cred, .int .i64 S.st, .int .i64 S.day, .slice S.uA S.uN S.uC, .slice S.gA S.gN S.gC, .int .i64 S.wor, .int .i64 S.pai, .int .i64 S.cre, .int .i64 S.giv]] w fun e w' => e = .returned (.bool (fewB S)) ∧ Below w.heap.size w w') := law_few S
  have HQR : Hid (fewB R = true → R.uN ≤ 300 ∧ R.gN ≤ 300) := fun h => by simpa [fewB] using h
  have HQS : Hid (fewB S = true → S.uN ≤ 300 ∧ S.gN ≤ 300) := fun h => by simpa [fewB] using h
  generalize fewB R = fr at *
  generalize fewB S = fs at *
  have HS0 := Lib.hid hS
  have HR0 : Aside _ := hR
  have HT0 : Aside _ := hQ
  clear hS hR hQ
  obtain ⟨n0, n1, n2, n3, n4, n5, n6, n7, uA, uN, uC, gA, gN, gC, n10, n11, n12, n13⟩ := R
  obtain ⟨m0, m1, m2, m3, m4, m5, m6, m7, xA, xN, xC, yA, yN, yC, m10, m11, m12, m13⟩ := S
  dsimp only at *
  obtain ⟨W, hW, hs2, hb2, X1, X2⟩ := two_rboxes w 34 34 ⟨n0, n1, n2, n3, n4, n5, n6, n7, uA, uN, uC, gA, gN, gC, n10, n11, n12, n13⟩ ⟨m0, m1, m2, m3, m4, m5, m6, m7, xA, xN, xC, yA, yN, yC, m10, m11, m12, m13⟩
  dsimp only at hW
  have HB : Aside (Below w.heap.size w W) := hb2
  have HX1 : Aside _ := X1
  have HX2 : Aside _ := X2
  clear X1 X2 hb2 hs2
  go_enter Tryd.func8, Tryd.ntmps8
  go_wp2_with fail
  rw [← hW]
  clear hW
  obtain ⟨g2, hg2⟩ : ∃ g, g = w.heap.size + 1 := ⟨_, rfl⟩
  rw [← hg2] at HX2 ⊢
  obtain ⟨g1, hg1⟩ : ∃ g, g = w.heap.size := ⟨_, rfl⟩
  rw [← hg1] at HX1 ⊢
  clear hg1 hg2
  refine Calls.mono (rma_awake (HS0.out.below HB.out)) ?_
  rintro e w1 ⟨rfl, b1⟩
  have HB1 : Aside (Below w.heap.size w w1) := HB.out.trans (b1.mono HB.out.size)
  have HX11 : Aside _ := HX1.out.below b1
  have HX21 : Aside _ := HX2.out.below b1
  clear HX1 HX2 b1 HB
  obtain ⟨y0, y1, y2, y3, y4, y5, y6, y7, y8, y9, y10, y11, y12, y13⟩ := HX11.out.cells
  have hl1 := HX11.out.lt
  go_wp2_with fail
  refine Calls.mono (HFR.out _) ?_
  rintro e w2 ⟨rfl, b2⟩
  have HB2 : Aside (Below w.heap.size w w2) := HB1.out.trans (b2.mono HB1.out.size)
  have HX12 : Aside _ := HX11.out.below b2
  have HX22 : Aside _ := HX21.out.below b2
  clear HX11 HX21 b2 HB1 HFR y0 y1 y2 y3 y4 y5 y6 y7 y8 y9 y10 y11 y12 y13 hl1
  cases fr with
  | false =>
    as_aux_lemma =>
      clear HX12 HX22 HFS
      go_wp2_with fail
      refine Calls.mono (rma_awake (HS0.out.below HB2.out)) ?_
      rintro e w3 ⟨rfl, b3⟩
      have HB3 : Aside (Below w.heap.size w w3) := HB2.out.trans (b3.mono HB2.out.size)
      clear HB2 b3
      go_wp2
      go_ret
      exact ⟨rfl, HB3.out⟩
  | true =>
    have HQ1 : Hid (uN ≤ 300 ∧ gN ≤ 300) := HQR.out rfl
    clear HQR
    obtain ⟨y0, y1, y2, y3, y4, y5, y6, y7, y8, y9, y10, y11, y12, y13⟩ := HX22.out.cells
    have hl1 := HX22.out.lt
    go_wp2_with fail
    refine Calls.mono (HFS.out _) ?_
    rintro e w3 ⟨rfl, b3⟩
    have HB3 : Aside (Below w.heap.size w w3) := HB2.out.trans (b3.mono HB2.out.size)
    have HX13 : Aside _ := HX12.out.below b3
    have HX23 : Aside _ := HX22.out.below b3
    clear HX12 HX22 b3 HB2 HFS y0 y1 y2 y3 y4 y5 y6 y7 y8 y9 y10 y11 y12 y13 hl1
    cases fs with
    | false =>
      as_aux_lemma =>
        clear HX13 HX23
        go_wp2_with fail
        refine Calls.mono (rma_awake (HS0.out.below HB3.out)) ?_
        rintro e w4 ⟨rfl, b4⟩
        have HB4 : Aside (Below w.heap.size w w4) := HB3.out.trans (b4.mono HB3.out.size)
        clear HB3 b4
        go_wp2
        go_ret
        exact ⟨rfl, HB4.out⟩
    | true =>
      have HQ2 : Hid (xN ≤ 300 ∧ yN ≤ 300) := HQS.out rfl
      clear HQS HS0
      obtain ⟨hu1, hv1⟩ := HQ1.out
      obtain ⟨hu2, hv2⟩ := HQ2.out
      go_upto_region 3 with (fail)
      have HR3 : Aside _ := HR0.out.below HB3.out
      have HT3 : Aside _ := HT0.out.below HB3.out
      have hg1 := HX13.out.lt
      have hg2 := HX23.out.lt
      obtain ⟨y0, y1, y2, y3, y4, y5, y6, y7, y8, y9, y10, y11, y12, y13⟩ := HX13.out.cells
      obtain ⟨z0, z1, z2, z3, z4, z5, z6, z7, z8, z9, z10, z11, z12, z13⟩ := HX23.out.cells
      dsimp only at y0 y1 y2 y3 y4 y5 y6 y7 y8 y9 y10 y11 y12 y13 z0 z1 z2 z3 z4 z5 z6 z7 z8 z9 z10 z11 z12 z13
      have HA : Aside (Holds w3 #[.int .i64 n0, .int .i64 n1, .int .i64 n2, .int .i64 n3, .int .i64 n4, .bool n5, .int .i64 n6, .int .i64 n7, .slice uA uN uC, .slice gA gN gC, .int .i64 n10, .int .i64 n11, .int .i64 n12, .int .i64 n13] ⟨n0, n1, n2, n3, n4, n5, n6, n7, uA, uN, uC, gA, gN, gC, n10, n11, n12, n13⟩ us gs) := ⟨uA, uC, gA, gC, rfl, HR3.out⟩
      have HC : Aside (Holds w3 #[.int .i64 m0, .int .i64 m1, .int .i64 m2, .int .i64 m3, .int .i64 m4, .bool m5, .int .i64 m6, .int .i64 m7, .slice xA xN xC, .slice yA yN yC, .int .i64 m10, .int .i64 m11, .int .i64 m12, .int .i64 m13] ⟨m0, m1, m2, m3, m4, m5, m6, m7, xA, xN, xC, yA, yN, yC, m10, m11, m12, m13⟩ vs hs) := ⟨xA, xC, yA, yC, rfl, HT3.out⟩
      have HHA : Aside (∀ X, Below w3.heap.size w3 X → Calls Tryd.prog 14 #[.agg #[.int .i64 n0, .int .i64 n1, .int .i64 n2, .int .i64 n3, .int .i64 n4, .bool n5, .int .i64 n6, .int .i64 n7, .slice uA uN uC, .slice gA gN gC, .int .i64 n10, .int .i64 n11, .int .i64 n12, .int .i64 n13]] X fun e w' => ∃ c', e = .returned (.agg c') ∧ Holds w' c' ⟨n0, n1, n2, n3, n4, n5, n6, n7, uA, uN, uC, gA, gN, gC, n10, n11, n12, n13⟩ us gs ∧ Below w3.heap.size w3 w' ∧ Below X.heap.size X w') := fun X hX => by
        refine (theirs_holds (r := ⟨n0, n1, n2, n3, n4, n5, n6, n7, uA, uN, uC, gA, gN, gC, n10, n11, n12, n13⟩) (HA.out.below hX) (by show uN ≤ _; omega) (by show gN ≤ _; omega)).mono ?_
        rintro e w' ⟨c', rfl, h1, h2⟩
        exact ⟨c', rfl, h1, hX.trans (h2.mono hX.size), h2⟩
      have HHB : Aside (∀ X, Below w3.heap.size w3 X → Calls Tryd.prog 14 #[.agg #[.int .i64 m0, .int .i64 m1, .int .i64 m2, .int .i64 m3, .int .i64 m4, .bool m5, .int .i64 m6, .int .i64 m7, .slice xA xN xC, .slice yA yN yC, .int .i64 m10, .int .i64 m11, .int .i64 m12, .int .i64 m13]] X fun e w' => ∃ c', e = .returned (.agg c') ∧ Holds w' c' ⟨m0, m1, m2, m3, m4, m5, m6, m7, xA, xN, xC, yA, yN, yC, m10, m11, m12, m13⟩ vs hs ∧ Below w3.heap.size w3 w' ∧ Below X.heap.size X w') := fun X hX => by
        refine (theirs_holds (r := ⟨m0, m1, m2, m3, m4, m5, m6, m7, xA, xN, xC, yA, yN, yC, m10, m11, m12, m13⟩) (HC.out.below hX) (by show xN ≤ _; omega) (by show yN ≤ _; omega)).mono ?_
        rintro e w' ⟨c', rfl, h1, h2⟩
        exact ⟨c', rfl, h1, hX.trans (h2.mono hX.size), h2⟩
      have HSM : Aside (∀ X, Below w3.heap.size w3 X → Calls Tryd.prog 21 #[.agg #[.int .i64 n0, .int .i64 n1, .int .i64 n2, .int .i64 n3, .int .i64 n4, .bool n5, .int .i64 n6, .int .i64 n7, .slice uA uN uC, .slice gA gN gC, .int .i64 n10, .int .i64 n11, .int .i64 n12, .int .i64 n13], .agg #[.int .i64 m0, .int .i64 m1, .int .i64 m2, .int .i64 m3, .int .i64 m4, .bool m5, .int .i64 m6, .int .i64 m7, .slice xA xN xC, .slice yA yN yC, .int .i64 m10, .int .i64 m11, .int .i64 m12, .int .i64 m13]] X fun e w' => e = .returned (.bool (sameB ⟨n0, n1, n2, n3, n4, n5, n6, n7, uA, uN, uC, gA, gN, gC, n10, n11, n12, n13⟩ ⟨m0, m1, m2, m3, m4, m5, m6, m7, xA, xN, xC, yA, yN, yC, m10, m11, m12, m13⟩ us vs gs hs)) ∧ Below w3.heap.size w3 w' ∧ Below X.heap.size X w') := fun X hX => by
        refine (same_holds (r := ⟨n0, n1, n2, n3, n4, n5, n6, n7, uA, uN, uC, gA, gN, gC, n10, n11, n12, n13⟩) (s := ⟨m0, m1, m2, m3, m4, m5, m6, m7, xA, xN, xC, yA, yN, yC, m10, m11, m12, m13⟩) (HA.out.below hX) (HC.out.below hX) (by show uN ≤ _; omega) (by show gN ≤ _; omega) (by show xN ≤ _; omega) (by show yN ≤ _; omega)).mono ?_
        rintro e w' ⟨rfl, h2⟩
        exact ⟨rfl, hX.trans (h2.mono hX.size), h2⟩
      have HEQ : Aside (∀ X c d, Below w3.heap.size w3 X → Holds X c ⟨n0, n1, n2, n3, n4, n5, n6, n7, uA, uN, uC, gA, gN, gC, n10, n11, n12, n13⟩ us gs → Holds X d ⟨m0, m1, m2, m3, m4, m5, m6, m7, xA, xN, xC, yA, yN, yC, m10, m11, m12, m13⟩ vs hs → Calls Tryd.prog 20 #[.agg c, .agg d] X fun e w' => e = .returned (.bool (sameB ⟨n0, n1, n2, n3, n4, n5, n6, n7, uA, uN, uC, gA, gN, gC, n10, n11, n12, n13⟩ ⟨m0, m1, m2, m3, m4, m5, m6, m7, xA, xN, xC, yA, yN, yC, m10, m11, m12, m13⟩ us vs gs hs)) ∧ Below w3.heap.size w3 w' ∧ Below X.heap.size X w') := fun X c d hX h1 h2 => by
        refine (equal_holds (r := ⟨n0, n1, n2, n3, n4, n5, n6, n7, uA, uN, uC, gA, gN, gC, n10, n11, n12, n13⟩) (s := ⟨m0, m1, m2, m3, m4, m5, m6, m7, xA, xN, xC, yA, yN, yC, m10, m11, m12, m13⟩) h1 h2 (by show uN ≤ _; omega) (by show gN ≤ _; omega) (by show xN ≤ _; omega) (by show yN ≤ _; omega)).mono ?_
        rintro e w' ⟨rfl, h2⟩
        exact ⟨rfl, hX.trans (h2.mono hX.size), h2⟩
      have HE2 : Aside (∀ X c d, Below w3.heap.size w3 X → Holds X c ⟨n0, n1, n2, n3, n4, n5, n6, n7, uA, uN, uC, gA, gN, gC, n10, n11, n12, n13⟩ us gs → Holds X d ⟨n0, n1, n2, n3, n4, n5, n6, n7, uA, uN, uC, gA, gN, gC, n10, n11, n12, n13⟩ us gs → Calls Tryd.prog 20 #[.agg c, .agg d] X fun e w' => e = .returned (.bool true) ∧ Below w3.heap.size w3 w' ∧ Below X.heap.size X w') := fun X c d hX h1 h2 => by
        refine (equal_holds (r := ⟨n0, n1, n2, n3, n4, n5, n6, n7, uA, uN, uC, gA, gN, gC, n10, n11, n12, n13⟩) (s := ⟨n0, n1, n2, n3, n4, n5, n6, n7, uA, uN, uC, gA, gN, gC, n10, n11, n12, n13⟩) h1 h2 (by show uN ≤ _; omega) (by show gN ≤ _; omega) (by show uN ≤ _; omega) (by show gN ≤ _; omega)).mono ?_
        rintro e w' ⟨rfl, h2⟩
        exact ⟨by rw [sameB_self], hX.trans (h2.mono hX.size), h2⟩
      have HCL : Aside (∀ X c, Below w3.heap.size w3 X → Holds X c ⟨n0, n1, n2, n3, n4, n5, n6, n7, uA, uN, uC, gA, gN, gC, n10, n11, n12, n13⟩ us gs → Calls Tryd.prog 30 #[.agg c] X fun e w' => ∃ c', e = .returned (.agg c') ∧ Holds w' c' ⟨n0, n1, n2, n3, n4, n5, n6, n7, uA, uN, uC, gA, gN, gC, n10, n11, n12, n13⟩ us gs ∧ Below w3.heap.size w3 w' ∧ Below X.heap.size X w') := fun X c hX h1 => by
        refine (clone_holds (r := ⟨n0, n1, n2, n3, n4, n5, n6, n7, uA, uN, uC, gA, gN, gC, n10, n11, n12, n13⟩) h1 (by show uN ≤ _; omega) (by show gN ≤ _; omega)).mono ?_
        rintro e w' ⟨c', rfl, h1, h2⟩
        exact ⟨c', rfl, h1, hX.trans (h2.mono hX.size), h2⟩
      generalize sameB ⟨n0, n1, n2, n3, n4, n5, n6, n7, uA, uN, uC, gA, gN, gC, n10, n11, n12, n13⟩ ⟨m0, m1, m2, m3, m4, m5, m6, m7, xA, xN, xC, yA, yN, yC, m10, m11, m12, m13⟩ us vs gs hs = q at *
      have hqq : (q == q) = true := by simp
      have b0 := Below.refl w3.heap.size w3
      clear HR0 HT0 HR3 HT3 HX13 HX23 HA HC hu1 hv1 hu2 hv2
      go_region_held3 (fun w' => Below w3.heap.size w3 w' ∧ (∀ o, w'.cell? ⟨g1, o, none⟩ = w3.cell? ⟨g1, o, none⟩) ∧ (∀ o, w'.cell? ⟨g2, o, none⟩ = w3.cell? ⟨g2, o, none⟩))
        (refine ⟨?_, fun o => Below.cell (p := ⟨g1, o, none⟩) ?_ hg1, fun o => Below.cell (p := ⟨g2, o, none⟩) ?_ hg2⟩ <;> (with_reducible (repeat (first | assumption | refine Below.drew ?_))))
        ((first
          | (go_at_call 14; with_reducible refine Calls.mono (HHA.out _ ?_) ?_; (with_reducible (repeat (first | assumption | refine Below.drew ?_))); rintro e w4 ⟨c4, rfl, N4, b4, l4⟩; first | (have N6 := Holds.below N6 l4) | skip)
          | (go_at_call 14; with_reducible refine Calls.mono (HHB.out _ ?_) ?_; (with_reducible (repeat (first | assumption | refine Below.drew ?_))); rintro e w5 ⟨c5, rfl, N5, b5, l5⟩; have N4 := Holds.below N4 l5)
          | (go_at_call 21; with_reducible refine Calls.mono (HSM.out _ ?_) ?_; (with_reducible (repeat (first | assumption | refine Below.drew ?_))); rintro e w7 ⟨rfl, b7, l7⟩)
          | (go_at_call 30; with_reducible refine Calls.mono (HCL.out _ _ ?_ N4) ?_; (with_reducible (repeat (first | assumption | refine Below.drew ?_))); rintro e w6 ⟨c6, rfl, N6, b6, l6⟩)
          | (go_at_call 20; with_reducible refine Calls.mono (HE2.out _ _ _ ?_ N6 N4) ?_; (with_reducible (repeat (first | assumption | refine Below.drew ?_))); rintro e w8 ⟨rfl, b8, l8⟩)
          | (go_at_call 20; with_reducible refine Calls.mono (HEQ.out _ _ _ ?_ N4 N5) ?_; (with_reducible (repeat (first | assumption | refine Below.drew ?_))); rintro e w9 ⟨rfl, b9, l9⟩)))
      all_goals
        have HBF : Aside (Below w.heap.size w w8) := HB3.out.trans (b8.mono HB3.out.size)
        clear b4 b5 b6 b7 b8 b9 l4 l5 l6 l7 l8 l9 N4 N5 N6
        go_wp2
        go_ret
        exact ⟨rfl, HBF.out⟩

theorem rmaEqual_contract (W : World) (args : Array Value) (hL : laidMetH Tryd.prog stepsLaid W) (h : Each Tryd.prog W Tryd.f8.params.toList args.toList) :
    Calls Tryd.prog 8 args W fun e W' => e = .returned (.bool true) ∧ Below W.heap.size W W' := by
  rw [Tryd.params8] at h
  obtain ⟨v0, r0, e0, ⟨_, o0⟩, d0, h⟩ := h.cons
  obtain ⟨v1, r1, rfl, ⟨_, o1⟩, d1, h⟩ := h.cons
  obtain rfl := h.nil
  obtain ⟨args⟩ := args
  obtain rfl : args = [v0, v1] := e0
  obtain ⟨R0, us0, gs0, rfl, hR0, hf0⟩ := val_ret o0 d0
  obtain ⟨R1, us1, gs1, rfl, hR1, hf1⟩ := val_ret o1 d1
  exact rmaEqual_law R0 us0 gs0 R1 us1 gs1 W (steps_of_laid hL) hR0 hf0 hR1 hf1

theorem rmaEqual_lifted (os : Os) (started : os.Started) (H : Type) (enc : TypeId × Value → H) :
    ReturnsInHanded {} Tryd.checked os 8 .any (fun w args => (Rows.rmaEqualSpec.pre enc Tryd.prog Tryd.f8 [] false w args ∧ laidMetH Tryd.prog stepsLaid w) ∧ sizedMet enc Tryd.prog Tryd.f8 (OpenSpec.ofChange Rows.rmaEqualSpec) false w args)
      (Rows.rmaEqualSpec.post enc Tryd.prog Tryd.f8 false true false false) :=
  law_lifted_laid (C := Tryd.checked) seat_own seat_laid (by kernel_rfl) Tryd.func8 rfl (tb := 4) rfl Tryd.underlying4
    (by
      rw [Tryd.params8]; intro t ht; simp at ht
      rcases ht with rfl | rfl <;> exact ⟨by kernel_rfl, of_decide_eq_true (by kernel_rfl)⟩)
    (fun H ds hl => by
      rw [Tryd.params8] at hl
      match ds, hl with
      | [d1, d2], _ => rfl)
    os started H enc
    (ChangeSpec.witness_shaped (enc := enc) (C := Tryd.checked) (os := os) (X := fun w _ => laidMetH Tryd.prog stepsLaid w) false (World.doorLaid Tryd.prog 26 os) #[.agg #[.int .i64 0, .int .i64 0, .int .i64 0, .int .i64 0, .int .i64 0, .bool false, .int .i64 0, .int .i64 0, .slice none 0 0, .slice none 0 0, .int .i64 0, .int .i64 0, .int .i64 0, .int .i64 0], .agg #[.int .i64 0, .int .i64 0, .int .i64 0, .int .i64 0, .int .i64 0, .bool false, .int .i64 0, .int .i64 0, .slice none 0 0, .slice none 0 0, .int .i64 0, .int .i64 0, .int .i64 0, .int .i64 0]] 8 rfl (World.shaped_of_RefB (by kernel_rfl) (by kernel_rfl)) (by kernel_rfl) (by kernel_rfl) (by kernel_rfl) (door_met os _))
    rmaEqual_contract

theorem rmaEqual_holds : Rows.RmaEqualSaid :=
  OpenClaim.holds_of_wide 8 Tryd.f8 rfl rfl rfl rfl rfl rfl rfl ⟨rfl, rfl, rfl, rfl, rfl⟩ rfl rfl rfl rfl rfl (by kernel_rfl) Tryd.func8 (by kernel_rfl)
    (of_decide_eq_true (by kernel_rfl)) (by unfold Func.isWrapper; first | (rw [if_pos (by decide +kernel)]; kernel_rfl) | (rw [if_neg (by decide +kernel)]; exact ⟨rfl, rfl⟩))
    (fun os started H enc _ => rmaEqual_lifted os started H enc)

theorem rmaEqual_card : Rows.RmaEqualCardSaid :=
  Claim7.holds_tied_plain_at .later [] [.data] true _ false
    rmaEqual_holds (fun _ h => by cases h) (by kernel_rfl) (fun _ h => by cases h) rmaEqual_row_tie rfl ⟨rfl, rfl⟩ (by kernel_rfl) rfl
    (fun f fn hf hfn => by
      obtain rfl : f = 8 := Option.some.inj ((show Tryd.prog.funcNamed "recoup/recouplaw14.RmaEqual" = some 8 by kernel_rfl).symm.trans hf) |>.symm
      obtain rfl : fn = Tryd.f8 := (Option.some.inj (Tryd.func8.symm.trans hfn)).symm
      exact ⟨by kernel_rfl, fun j t ht => by
        rw [Tryd.params8] at ht
        have hm : t ∈ [34, 34] := by simpa using Array.mem_of_getElem? ht
        have hall : ([34, 34].all fun u => !Tryd.prog.wantsStandIn u) = true := by kernel_rfl
        exact (show Tryd.prog.wantsStandIn t = false by simpa using List.all_eq_true.1 hall t hm)⟩)
    (by kernel_rfl)
#print axioms rmaEqual_card
end Go.Proofs.YtkjkamcjbhhefaaDoor
