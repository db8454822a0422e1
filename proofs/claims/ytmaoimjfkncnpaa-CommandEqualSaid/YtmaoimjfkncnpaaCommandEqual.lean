/-
  CommandEqual: commands are told to be alike just if they are. No conditions: every input.
-/
import Derived.Test.YtmaoimjfkncnpaaCmLaw
import Derived.Test.YtmaoimjfkncnpaaCmSame
namespace Go.Proofs.Ytmaoimjfkncnpaa
open Go.RowKit Go.WideShapes
set_option maxRecDepth 100000

set_option maxHeartbeats 8000000 in
theorem commandEqual_law (R : Com) (us : List Int) (T : Com) (vs : List Int) (w : World) (hR : LiAt w R.uA R.uN R.uC us) (hT : LiAt w T.uA T.uN T.uC vs) :
    Calls Try.prog 7 #[.agg #[.int .i64 R.kind, .int .i64 R.ord, .slice R.uA R.uN R.uC, .int .i64 R.rea, .int .i64 R.want, .bool R.cred, .int .i64 R.rma, .int .i64 R.unit, .int .i64 R.grd, .int .i64 R.days, .int .i64 R.key, .bool R.yes], .agg #[.int .i64 T.kind, .int .i64 T.ord, .slice T.uA T.uN T.uC, .int .i64 T.rea, .int .i64 T.want, .bool T.cred, .int .i64 T.rma, .int .i64 T.unit, .int .i64 T.grd, .int .i64 T.days, .int .i64 T.key, .bool T.yes]] w fun e w' => e = .returned (.bool true) ∧ Below w.heap.size w w' := by
  obtain ⟨n0, n1, uA, uN, uC, n3, n4, n5, n6, n7, n8, n9, n10, n11⟩ := R
  obtain ⟨m0, m1, xA, xN, xC, m3, m4, m5, m6, m7, m8, m9, m10, m11⟩ := T
  dsimp only at *
  obtain ⟨W, hW, hs2, hb2, X1, X2⟩ := two_boxes w 24 24 ⟨n0, n1, uA, uN, uC, n3, n4, n5, n6, n7, n8, n9, n10, n11⟩ ⟨m0, m1, xA, xN, xC, m3, m4, m5, m6, m7, m8, m9, m10, m11⟩
  dsimp only at hW
  have HX : Aside (ComBox W w.heap.size 24 ⟨n0, n1, uA, uN, uC, n3, n4, n5, n6, n7, n8, n9, n10, n11⟩) := X1
  have HY : Aside (ComBox W (w.heap.size + 1) 24 ⟨m0, m1, xA, xN, xC, m3, m4, m5, m6, m7, m8, m9, m10, m11⟩) := X2
  have HB : Aside (Below w.heap.size w W) := hb2
  have HU : Aside (LiAt W uA uN uC us) := hR.below hb2
  have HV : Aside (LiAt W xA xN xC vs) := hT.below hb2
  clear hR hT X1 X2 hb2 hs2
  go_enter Try.func7, Try.ntmps7
  go_wp2_with fail
  rw [← hW]
  clear hW
  obtain ⟨g2, hg2⟩ : ∃ g, g = w.heap.size + 1 := ⟨_, rfl⟩
  rw [← hg2] at HY ⊢
  obtain ⟨g1, hg1⟩ : ∃ g, g = w.heap.size := ⟨_, rfl⟩
  rw [← hg1] at HX ⊢
  clear hg1 hg2
  refine Calls.mono (cm_awake _) ?_
  rintro e w1 ⟨rfl, b1⟩
  have HB1 : Aside (Below w.heap.size w w1) := HB.out.trans (b1.mono HB.out.size)
  have X1 : Aside (ComBox w1 g1 24 ⟨n0, n1, uA, uN, uC, n3, n4, n5, n6, n7, n8, n9, n10, n11⟩) := HX.out.below b1
  have Y1 : Aside (ComBox w1 g2 24 ⟨m0, m1, xA, xN, xC, m3, m4, m5, m6, m7, m8, m9, m10, m11⟩) := HY.out.below b1
  have U1 : Aside (LiAt w1 uA uN uC us) := HU.out.below b1
  have V1 : Aside (LiAt w1 xA xN xC vs) := HV.out.below b1
  clear HB HX HY HU HV b1
  have hl1 := X1.out.lt
  have hl2 := Y1.out.lt
  obtain ⟨y0, y1, y2, y3, y4, y5, y6, y7, y8, y9, y10, y11⟩ := X1.out.cells
  obtain ⟨z0, z1, z2, z3, z4, z5, z6, z7, z8, z9, z10, z11⟩ := Y1.out.cells
  dsimp only at y0 y1 y2 y3 y4 y5 y6 y7 y8 y9 y10 y11 z0 z1 z2 z3 z4 z5 z6 z7 z8 z9 z10 z11
  by_cases h : 400 < uN
  · have h400 : (400 : Int) < (uN : Int) := by omega
    go_wp2_with fail
    refine Calls.mono (cm_awake _) ?_
    rintro e w2 ⟨rfl, b2⟩
    have HBF : Aside (Below w.heap.size w w2) := HB1.out.trans (b2.mono HB1.out.size)
    clear HB1 X1 Y1 U1 V1 b2 y0 y1 y2 y3 y4 y5 y6 y7 y8 y9 y10 y11 hl1 z0 z1 z2 z3 z4 z5 z6 z7 z8 z9 z10 z11 hl2
    go_wp2
    go_ret
    exact ⟨rfl, HBF.out⟩
  · by_cases h' : 400 < xN
    · have h400 : ¬ (400 : Int) < (uN : Int) := by omega
      have h401 : (400 : Int) < (xN : Int) := by omega
      go_wp2_with fail
      refine Calls.mono (cm_awake _) ?_
      rintro e w2 ⟨rfl, b2⟩
      have HBF : Aside (Below w.heap.size w w2) := HB1.out.trans (b2.mono HB1.out.size)
      clear HB1 X1 Y1 U1 V1 b2 y0 y1 y2 y3 y4 y5 y6 y7 y8 y9 y10 y11 hl1 z0 z1 z2 z3 z4 z5 z6 z7 z8 z9 z10 z11 hl2
      go_wp2
      go_ret
      exact ⟨rfl, HBF.out⟩
    · have h400 : ¬ (400 : Int) < (uN : Int) := by omega
      have h401 : ¬ (400 : Int) < (xN : Int) := by omega
      have hN : uN ≤ 400 := by omega
      have hM : xN ≤ 400 := by omega
      obtain ⟨v, hv⟩ : ∃ v, v = w1 := ⟨_, rfl⟩
      subst hv
      have HTA : Aside (∀ X, Below v.heap.size v X → Calls Try.prog 10 #[.agg #[.int .i64 n0, .int .i64 n1, .slice uA uN uC, .int .i64 n3, .int .i64 n4, .bool n5, .int .i64 n6, .int .i64 n7, .int .i64 n8, .int .i64 n9, .int .i64 n10, .bool n11]] X fun e w' => ∃ a8 c8, e = .returned (.agg #[.int .i64 n0, .int .i64 n1, .slice a8 uN c8, .int .i64 n3, .int .i64 n4, .bool n5, .int .i64 n6, .int .i64 n7, .int .i64 n8, .int .i64 n9, .int .i64 n10, .bool n11]) ∧ LiAt w' a8 uN c8 us ∧ Below v.heap.size v w' ∧ Below X.heap.size X w') := fun X hX => by
        refine (law_theirs ⟨n0, n1, uA, uN, uC, n3, n4, n5, n6, n7, n8, n9, n10, n11⟩ us X (U1.out.below hX) (by show uN ≤ _; omega)).mono ?_
        rintro e w' ⟨⟨a, c, rfl, hl⟩, hb⟩
        exact ⟨a, c, rfl, hl.li, hX.trans (hb.mono hX.size), hb⟩
      have HTB : Aside (∀ X, Below v.heap.size v X → Calls Try.prog 10 #[.agg #[.int .i64 m0, .int .i64 m1, .slice xA xN xC, .int .i64 m3, .int .i64 m4, .bool m5, .int .i64 m6, .int .i64 m7, .int .i64 m8, .int .i64 m9, .int .i64 m10, .bool m11]] X fun e w' => ∃ a9 c9, e = .returned (.agg #[.int .i64 m0, .int .i64 m1, .slice a9 xN c9, .int .i64 m3, .int .i64 m4, .bool m5, .int .i64 m6, .int .i64 m7, .int .i64 m8, .int .i64 m9, .int .i64 m10, .bool m11]) ∧ LiAt w' a9 xN c9 vs ∧ Below v.heap.size v w' ∧ Below X.heap.size X w') := fun X hX => by
        refine (law_theirs ⟨m0, m1, xA, xN, xC, m3, m4, m5, m6, m7, m8, m9, m10, m11⟩ vs X (V1.out.below hX) (by show xN ≤ _; omega)).mono ?_
        rintro e w' ⟨⟨a, c, rfl, hl⟩, hb⟩
        exact ⟨a, c, rfl, hl.li, hX.trans (hb.mono hX.size), hb⟩
      have HSM : Aside (∀ X, Below v.heap.size v X → Calls Try.prog 16 #[.agg #[.int .i64 n0, .int .i64 n1, .slice uA uN uC, .int .i64 n3, .int .i64 n4, .bool n5, .int .i64 n6, .int .i64 n7, .int .i64 n8, .int .i64 n9, .int .i64 n10, .bool n11], .agg #[.int .i64 m0, .int .i64 m1, .slice xA xN xC, .int .i64 m3, .int .i64 m4, .bool m5, .int .i64 m6, .int .i64 m7, .int .i64 m8, .int .i64 m9, .int .i64 m10, .bool m11]] X fun e w' => e = .returned (.bool (sameB ⟨n0, n1, uA, uN, uC, n3, n4, n5, n6, n7, n8, n9, n10, n11⟩ ⟨m0, m1, xA, xN, xC, m3, m4, m5, m6, m7, m8, m9, m10, m11⟩ us vs)) ∧ Below v.heap.size v w' ∧ Below X.heap.size X w') := fun X hX => by
        refine (law_same ⟨n0, n1, uA, uN, uC, n3, n4, n5, n6, n7, n8, n9, n10, n11⟩ ⟨m0, m1, xA, xN, xC, m3, m4, m5, m6, m7, m8, m9, m10, m11⟩ us vs X (U1.out.below hX) (V1.out.below hX) (by show uN ≤ _; omega) (by show xN ≤ _; omega)).mono ?_
        rintro e w' ⟨rfl, hb⟩
        exact ⟨rfl, hX.trans (hb.mono hX.size), hb⟩
      have HEQ : Aside (∀ X a8 c8 a9 c9, Below v.heap.size v X → LiAt X a8 uN c8 us → LiAt X a9 xN c9 vs → Calls Try.prog 18 #[.agg #[.int .i64 n0, .int .i64 n1, .slice a8 uN c8, .int .i64 n3, .int .i64 n4, .bool n5, .int .i64 n6, .int .i64 n7, .int .i64 n8, .int .i64 n9, .int .i64 n10, .bool n11], .agg #[.int .i64 m0, .int .i64 m1, .slice a9 xN c9, .int .i64 m3, .int .i64 m4, .bool m5, .int .i64 m6, .int .i64 m7, .int .i64 m8, .int .i64 m9, .int .i64 m10, .bool m11]] X fun e w' => e = .returned (.bool (sameB ⟨n0, n1, uA, uN, uC, n3, n4, n5, n6, n7, n8, n9, n10, n11⟩ ⟨m0, m1, xA, xN, xC, m3, m4, m5, m6, m7, m8, m9, m10, m11⟩ us vs)) ∧ Below v.heap.size v w' ∧ Below X.heap.size X w') := fun X a8 c8 a9 c9 hX h8 h9 => by
        refine (cm_equal ⟨n0, n1, a8, uN, c8, n3, n4, n5, n6, n7, n8, n9, n10, n11⟩ ⟨m0, m1, a9, xN, c9, m3, m4, m5, m6, m7, m8, m9, m10, m11⟩ us vs X h8 h9 (by show uN ≤ _; omega) (by show xN ≤ _; omega)).mono ?_
        rintro e w' ⟨rfl, hb⟩
        exact ⟨rfl, hX.trans (hb.mono hX.size), hb⟩
      have HE2 : Aside (∀ X a8 c8 xA xC, Below v.heap.size v X → LiAt X a8 uN c8 us → LiAt X xA uN xC us → Calls Try.prog 18 #[.agg #[.int .i64 n0, .int .i64 n1, .slice a8 uN c8, .int .i64 n3, .int .i64 n4, .bool n5, .int .i64 n6, .int .i64 n7, .int .i64 n8, .int .i64 n9, .int .i64 n10, .bool n11], .agg #[.int .i64 n0, .int .i64 n1, .slice xA uN xC, .int .i64 n3, .int .i64 n4, .bool n5, .int .i64 n6, .int .i64 n7, .int .i64 n8, .int .i64 n9, .int .i64 n10, .bool n11]] X fun e w' => e = .returned (.bool true) ∧ Below v.heap.size v w' ∧ Below X.heap.size X w') := fun X a8 c8 xA xC hX h8 h9 => by
        refine (cm_equal ⟨n0, n1, a8, uN, c8, n3, n4, n5, n6, n7, n8, n9, n10, n11⟩ ⟨n0, n1, xA, uN, xC, n3, n4, n5, n6, n7, n8, n9, n10, n11⟩ us us X h8 h9 (by show uN ≤ _; omega) (by show uN ≤ _; omega)).mono ?_
        rintro e w' ⟨rfl, hb⟩
        exact ⟨by rw [show sameB ⟨n0, n1, a8, uN, c8, n3, n4, n5, n6, n7, n8, n9, n10, n11⟩ ⟨n0, n1, xA, uN, xC, n3, n4, n5, n6, n7, n8, n9, n10, n11⟩ us us = true from sameB_self ⟨n0, n1, uA, uN, uC, n3, n4, n5, n6, n7, n8, n9, n10, n11⟩ us], hX.trans (hb.mono hX.size), hb⟩
      generalize sameB ⟨n0, n1, uA, uN, uC, n3, n4, n5, n6, n7, n8, n9, n10, n11⟩ ⟨m0, m1, xA, xN, xC, m3, m4, m5, m6, m7, m8, m9, m10, m11⟩ us vs = qs at *
      have b0 := Below.refl v.heap.size v
      clear X1 Y1 U1 V1 h h'
      go_upto_region 3 with (fail)
      cases qs with
      | true =>
        as_aux_lemma =>
          go_region_held3 (fun w' => Below v.heap.size v w' ∧ (∀ o, w'.cell? ⟨g1, o, none⟩ = v.cell? ⟨g1, o, none⟩) ∧ (∀ o, w'.cell? ⟨g2, o, none⟩ = v.cell? ⟨g2, o, none⟩))
            (refine ⟨?_, fun o => Below.cell (p := ⟨g1, o, none⟩) ?_ hl1, fun o => Below.cell (p := ⟨g2, o, none⟩) ?_ hl2⟩ <;> (with_reducible (repeat (first | assumption | refine Below.drew ?_))))
            ((first
              | (have q41 := N41; go_at_call 10; with_reducible refine Calls.mono (HTA.out _ ?_) ?_; (with_reducible (repeat (first | assumption | refine Below.drew ?_))); rintro e w42 ⟨a42, c42, rfl, N42, b42, l42⟩; have N41 := LiAt.past N41 (by repeat (first | exact Below.refl _ _ | refine Below.drew ?_)) l42; clear q41)
              | (have q9 := b9; have q7 := b7; go_at_call 10; with_reducible refine Calls.mono (HTA.out _ ?_) ?_; (with_reducible (repeat (first | assumption | refine Below.drew ?_))); rintro e w41 ⟨a41, c41, rfl, N41, b41, l41⟩; clear q9 q7)
              | (go_at_call 10; with_reducible refine Calls.mono (HTA.out _ ?_) ?_; (with_reducible (repeat (first | assumption | refine Below.drew ?_))); rintro e w4 ⟨a4, c4, rfl, N4, b4, l4⟩; first | (have N5 := LiAt.past N5 (by repeat (first | exact Below.refl _ _ | refine Below.drew ?_)) l4) | skip)
              | (go_at_call 10; with_reducible refine Calls.mono (HTB.out _ ?_) ?_; (with_reducible (repeat (first | assumption | refine Below.drew ?_))); rintro e w5 ⟨a5, c5, rfl, N5, b5, l5⟩; first | (have N4 := LiAt.past N4 (by repeat (first | exact Below.refl _ _ | refine Below.drew ?_)) l5) | skip)
              | (go_at_call 16; with_reducible refine Calls.mono (HSM.out _ ?_) ?_; (with_reducible (repeat (first | assumption | refine Below.drew ?_))); rintro e w7 ⟨rfl, b7, l7⟩; first | (have N4 := LiAt.past N4 (by repeat (first | exact Below.refl _ _ | refine Below.drew ?_)) l7) | skip; first | (have N5 := LiAt.past N5 (by repeat (first | exact Below.refl _ _ | refine Below.drew ?_)) l7) | skip)
              | (go_at_call 18; with_reducible refine Calls.mono (HE2.out _ _ _ _ _ ?_ (LiAt.below N41 (by repeat (first | exact Below.refl _ _ | refine Below.drew ?_))) (LiAt.below N42 (by repeat (first | exact Below.refl _ _ | refine Below.drew ?_)))) ?_; (with_reducible (repeat (first | assumption | refine Below.drew ?_))); rintro e w8 ⟨rfl, b8, l8⟩)
              | (go_at_call 18; with_reducible refine Calls.mono (HE2.out _ _ _ _ _ ?_ (LiAt.below N42 (by repeat (first | exact Below.refl _ _ | refine Below.drew ?_))) (LiAt.below N41 (by repeat (first | exact Below.refl _ _ | refine Below.drew ?_)))) ?_; (with_reducible (repeat (first | assumption | refine Below.drew ?_))); rintro e w8 ⟨rfl, b8, l8⟩)
              | (go_at_call 18; with_reducible refine Calls.mono (HEQ.out _ _ _ _ _ ?_ (LiAt.below N4 (by repeat (first | exact Below.refl _ _ | refine Below.drew ?_))) (LiAt.below N5 (by repeat (first | exact Below.refl _ _ | refine Below.drew ?_)))) ?_; (with_reducible (repeat (first | assumption | refine Below.drew ?_))); rintro e w9 ⟨rfl, b9, l9⟩; have N4 := LiAt.past N4 (by repeat (first | exact Below.refl _ _ | refine Below.drew ?_)) l9; have N5 := LiAt.past N5 (by repeat (first | exact Below.refl _ _ | refine Below.drew ?_)) l9)))
          all_goals
            have HBF : Aside (Below w.heap.size w w8) := HB1.out.trans (b8.mono HB1.out.size)
            clear b4 b5 b7 b8 b9 b41 b42 l4 l5 l7 l8 l9 l41 l42 N4 N5 N41 N42 b0 HTA HTB HSM HEQ HE2
            go_wp2
            go_ret
            exact ⟨rfl, HBF.out⟩
      | false =>
        as_aux_lemma =>
          go_region_held3 (fun w' => Below v.heap.size v w' ∧ (∀ o, w'.cell? ⟨g1, o, none⟩ = v.cell? ⟨g1, o, none⟩) ∧ (∀ o, w'.cell? ⟨g2, o, none⟩ = v.cell? ⟨g2, o, none⟩))
            (refine ⟨?_, fun o => Below.cell (p := ⟨g1, o, none⟩) ?_ hl1, fun o => Below.cell (p := ⟨g2, o, none⟩) ?_ hl2⟩ <;> (with_reducible (repeat (first | assumption | refine Below.drew ?_))))
            ((first
              | (have q41 := N41; go_at_call 10; with_reducible refine Calls.mono (HTA.out _ ?_) ?_; (with_reducible (repeat (first | assumption | refine Below.drew ?_))); rintro e w42 ⟨a42, c42, rfl, N42, b42, l42⟩; have N41 := LiAt.past N41 (by repeat (first | exact Below.refl _ _ | refine Below.drew ?_)) l42; clear q41)
              | (have q9 := b9; have q7 := b7; go_at_call 10; with_reducible refine Calls.mono (HTA.out _ ?_) ?_; (with_reducible (repeat (first | assumption | refine Below.drew ?_))); rintro e w41 ⟨a41, c41, rfl, N41, b41, l41⟩; clear q9 q7)
              | (go_at_call 10; with_reducible refine Calls.mono (HTA.out _ ?_) ?_; (with_reducible (repeat (first | assumption | refine Below.drew ?_))); rintro e w4 ⟨a4, c4, rfl, N4, b4, l4⟩; first | (have N5 := LiAt.past N5 (by repeat (first | exact Below.refl _ _ | refine Below.drew ?_)) l4) | skip)
              | (go_at_call 10; with_reducible refine Calls.mono (HTB.out _ ?_) ?_; (with_reducible (repeat (first | assumption | refine Below.drew ?_))); rintro e w5 ⟨a5, c5, rfl, N5, b5, l5⟩; first | (have N4 := LiAt.past N4 (by repeat (first | exact Below.refl _ _ | refine Below.drew ?_)) l5) | skip)
              | (go_at_call 16; with_reducible refine Calls.mono (HSM.out _ ?_) ?_; (with_reducible (repeat (first | assumption | refine Below.drew ?_))); rintro e w7 ⟨rfl, b7, l7⟩; first | (have N4 := LiAt.past N4 (by repeat (first | exact Below.refl _ _ | refine Below.drew ?_)) l7) | skip; first | (have N5 := LiAt.past N5 (by repeat (first | exact Below.refl _ _ | refine Below.drew ?_)) l7) | skip)
              | (go_at_call 18; with_reducible refine Calls.mono (HE2.out _ _ _ _ _ ?_ (LiAt.below N41 (by repeat (first | exact Below.refl _ _ | refine Below.drew ?_))) (LiAt.below N42 (by repeat (first | exact Below.refl _ _ | refine Below.drew ?_)))) ?_; (with_reducible (repeat (first | assumption | refine Below.drew ?_))); rintro e w8 ⟨rfl, b8, l8⟩)
              | (go_at_call 18; with_reducible refine Calls.mono (HE2.out _ _ _ _ _ ?_ (LiAt.below N42 (by repeat (first | exact Below.refl _ _ | refine Below.drew ?_))) (LiAt.below N41 (by repeat (first | exact Below.refl _ _ | refine Below.drew ?_)))) ?_; (with_reducible (repeat (first | assumption | refine Below.drew ?_))); rintro e w8 ⟨rfl, b8, l8⟩)
              | (go_at_call 18; with_reducible refine Calls.mono (HEQ.out _ _ _ _ _ ?_ (LiAt.below N4 (by repeat (first | exact Below.refl _ _ | refine Below.drew ?_))) (LiAt.below N5 (by repeat (first | exact Below.refl _ _ | refine Below.drew ?_)))) ?_; (with_reducible (repeat (first | assumption | refine Below.drew ?_))); rintro e w9 ⟨rfl, b9, l9⟩; have N4 := LiAt.past N4 (by repeat (first | exact Below.refl _ _ | refine Below.drew ?_)) l9; have N5 := LiAt.past N5 (by repeat (first | exact Below.refl _ _ | refine Below.drew ?_)) l9)))
          all_goals
            have HBF : Aside (Below w.heap.size w w8) := HB1.out.trans (b8.mono HB1.out.size)
            clear b4 b5 b7 b8 b9 b41 b42 l4 l5 l7 l8 l9 l41 l42 N4 N5 N41 N42 b0 HTA HTB HSM HEQ HE2
            go_wp2
            go_ret
            exact ⟨rfl, HBF.out⟩

theorem commandEqual_contract (W : World) (args : Array Value) (h : Each Try.prog W Try.f7.params.toList args.toList) :
    Calls Try.prog 7 args W fun e W' => e = .returned (.bool true) ∧ Below W.heap.size W W' := by
  rw [Try.params7] at h
  obtain ⟨v0, r0, e0, ⟨_, o0⟩, d0, h⟩ := h.cons
  obtain ⟨v1, r1, rfl, ⟨_, o1⟩, d1, h⟩ := h.cons
  obtain rfl := h.nil
  obtain ⟨args⟩ := args
  obtain rfl : args = [v0, v1] := e0
  obtain ⟨R0, us0, rfl, hR0, hf0⟩ := val_com o0 d0
  obtain ⟨R1, us1, rfl, hR1, hf1⟩ := val_com o1 d1
  exact commandEqual_law R0 us0 R1 us1 W hR0 hR1

theorem commandEqual_lifted (os : Os) (started : os.Started) (H : Type) (enc : TypeId × Value → H) :
    ReturnsInHanded {} Try.checked os 7 .any (Rows.commandEqualSpec.pre6 enc Try.prog Try.f7 Rows.commandEqualRow.domain false) (Rows.commandEqualSpec.post enc Try.prog Try.f7 false true false false) :=
  law_lifted (C := Try.checked) seat_own seat_laid (by kernel_rfl) Try.func7 rfl (tb := 4) rfl Try.underlying4
    (by
      rw [Try.params7]; intro t ht; simp at ht
      rcases ht with rfl | rfl <;> exact ⟨by kernel_rfl, of_decide_eq_true (by kernel_rfl)⟩)
    (fun H ds hl => by
      rw [Try.params7] at hl
      match ds, hl with
      | [d1, d2], _ => rfl)
    os started H enc
    (ChangeSpec.witness6 (enc := enc) (C := Try.checked) false ⟨#[], #[.agg #[.int .i64 0, .int .i64 0, .slice none 0 0, .int .i64 0, .int .i64 0, .bool false, .int .i64 0, .int .i64 0, .int .i64 0, .int .i64 0, .int .i64 0, .bool false], .agg #[.int .i64 0, .int .i64 0, .slice none 0 0, .int .i64 0, .int .i64 0, .bool false, .int .i64 0, .int .i64 0, .int .i64 0, .int .i64 0, .int .i64 0, .bool false]], []⟩ 8 (by kernel_rfl) (by kernel_rfl) (by kernel_rfl) (by kernel_rfl))
    commandEqual_contract

theorem commandEqual_holds : Rows.CommandEqualSaid :=
  OpenClaim.holds_of_wide 7 Try.f7 rfl rfl rfl rfl rfl rfl rfl ⟨rfl, rfl, rfl, rfl, rfl⟩ rfl rfl rfl rfl rfl (by kernel_rfl) Try.func7 (by kernel_rfl)
    (of_decide_eq_true (by kernel_rfl)) (by unfold Func.isWrapper; first | (rw [if_pos (by decide +kernel)]; kernel_rfl) | (rw [if_neg (by decide +kernel)]; exact ⟨rfl, rfl⟩))
    (fun os started H enc _ => commandEqual_lifted os started H enc)
#print axioms commandEqual_holds
end Go.Proofs.Ytmaoimjfkncnpaa
