/-
  CommandBack: what is encoded is decoded as the same. No conditions: every input.
-/
import Derived.Test.YtmaoimjfkncnpaaCmLaw
import Derived.Test.YtmaoimjfkncnpaaCmSame
namespace Go.Proofs.Ytmaoimjfkncnpaa
open Go.RowKit Go.WideShapes
set_option maxRecDepth 100000

set_option maxHeartbeats 8000000 in
theorem commandBack_law (R : Com) (us : List Int) (w : World) (hR : LiAt w R.uA R.uN R.uC us) (hf : Fit64 R us) :
    Calls Try.prog 4 #[.agg #[.int .i64 R.kind, .int .i64 R.ord, .slice R.uA R.uN R.uC, .int .i64 R.rea, .int .i64 R.want, .bool R.cred, .int .i64 R.rma, .int .i64 R.unit, .int .i64 R.grd, .int .i64 R.days, .int .i64 R.key, .bool R.yes]] w fun e w' => e = .returned (.bool true) ∧ Below w.heap.size w w' := by
  obtain ⟨n0, n1, uA, uN, uC, n3, n4, n5, n6, n7, n8, n9, n10, n11⟩ := R
  dsimp only at *
  obtain ⟨W, hW, hs2, hb2, X1⟩ := one_box w 24 ⟨n0, n1, uA, uN, uC, n3, n4, n5, n6, n7, n8, n9, n10, n11⟩
  dsimp only at hW
  have HX : Aside (ComBox W w.heap.size 24 ⟨n0, n1, uA, uN, uC, n3, n4, n5, n6, n7, n8, n9, n10, n11⟩) := X1
  have HB : Aside (Below w.heap.size w W) := hb2
  have HU : Aside (LiAt W uA uN uC us) := hR.below hb2
  have HF : Aside (Fit64 ⟨n0, n1, uA, uN, uC, n3, n4, n5, n6, n7, n8, n9, n10, n11⟩ us) := hf
  clear hR hf X1 hb2 hs2
  go_enter Try.func4, Try.ntmps4
  go_wp2_with fail
  rw [← hW]
  clear hW
  obtain ⟨g1, hg1⟩ : ∃ g, g = w.heap.size := ⟨_, rfl⟩
  rw [← hg1] at HX ⊢
  clear hg1
  refine Calls.mono (cm_awake _) ?_
  rintro e w1 ⟨rfl, b1⟩
  have HB1 : Aside (Below w.heap.size w w1) := HB.out.trans (b1.mono HB.out.size)
  have X1 : Aside (ComBox w1 g1 24 ⟨n0, n1, uA, uN, uC, n3, n4, n5, n6, n7, n8, n9, n10, n11⟩) := HX.out.below b1
  have U1 : Aside (LiAt w1 uA uN uC us) := HU.out.below b1
  clear HB HX HU b1
  obtain ⟨y0, y1, y2, y3, y4, y5, y6, y7, y8, y9, y10, y11⟩ := X1.out.cells
  have hl1 := X1.out.lt
  dsimp only at y0 y1 y2 y3 y4 y5 y6 y7 y8 y9 y10 y11
  by_cases h : 400 < uN
  · have h400 : (400 : Int) < (uN : Int) := by omega
    go_wp2_with fail
    refine Calls.mono (cm_awake _) ?_
    rintro e w2 ⟨rfl, b2⟩
    have HBF : Aside (Below w.heap.size w w2) := HB1.out.trans (b2.mono HB1.out.size)
    clear HB1 X1 U1 b2 y0 y1 y2 y3 y4 y5 y6 y7 y8 y9 y10 y11 hl1
    go_wp2
    go_ret
    exact ⟨rfl, HBF.out⟩
  · have h400 : ¬ (400 : Int) < (uN : Int) := by omega
    have hN : uN ≤ 400 := by omega
    have HTH : Aside (∀ X, LiAt X uA uN uC us → Calls Try.prog 10 #[.agg #[.int .i64 n0, .int .i64 n1, .slice uA uN uC, .int .i64 n3, .int .i64 n4, .bool n5, .int .i64 n6, .int .i64 n7, .int .i64 n8, .int .i64 n9, .int .i64 n10, .bool n11]] X fun e w' => (∃ xA xC, e = .returned (.agg #[.int .i64 n0, .int .i64 n1, .slice xA uN xC, .int .i64 n3, .int .i64 n4, .bool n5, .int .i64 n6, .int .i64 n7, .int .i64 n8, .int .i64 n9, .int .i64 n10, .bool n11]) ∧ LiAt w' xA uN xC us) ∧ Below X.heap.size X w') := fun X hX => by
      refine (law_theirs ⟨n0, n1, uA, uN, uC, n3, n4, n5, n6, n7, n8, n9, n10, n11⟩ us X hX (by show uN ≤ _; omega)).mono ?_
      rintro e w' ⟨⟨a, c, rfl, hn⟩, hb⟩
      exact ⟨⟨a, c, rfl, hn.li⟩, hb⟩
    have HEN : Aside (∀ X xA xC, LiAt X xA uN xC us → Calls Try.prog 9 #[.agg #[.int .i64 n0, .int .i64 n1, .slice xA uN xC, .int .i64 n3, .int .i64 n4, .bool n5, .int .i64 n6, .int .i64 n7, .int .i64 n8, .int .i64 n9, .int .i64 n10, .bool n11]] X fun e w' => EncE ⟨n0, n1, uA, uN, uC, n3, n4, n5, n6, n7, n8, n9, n10, n11⟩ us e w' ∧ Below X.heap.size X w') := fun X xA xC hX => by
      refine (cm_encode ⟨n0, n1, xA, uN, xC, n3, n4, n5, n6, n7, n8, n9, n10, n11⟩ us hX (HF.out.at1 xA xC) (by show uN ≤ _; omega)).mono ?_
      rintro e w' ⟨h, hb⟩
      refine ⟨?_, hb⟩
      rcases h with ⟨h, h2⟩ | ⟨h, h2⟩
      · exact .inl ⟨(FormedC.at1 xA xC).1 h, h2⟩
      · exact .inr ⟨fun f => h ((FormedC.at1 (r := ⟨n0, n1, uA, uN, uC, n3, n4, n5, n6, n7, n8, n9, n10, n11⟩) xA xC).2 f), h2⟩
    clear h
    go_wp2_with fail
    refine Calls.mono (HTH.out _ U1.out) ?_
    rintro e w2 ⟨⟨xA, xC, rfl, l2⟩, b2⟩
    have HB2 : Aside (Below w.heap.size w w2) := HB1.out.trans (b2.mono HB1.out.size)
    have X2 : Aside (ComBox w2 g1 24 ⟨n0, n1, uA, uN, uC, n3, n4, n5, n6, n7, n8, n9, n10, n11⟩) := X1.out.below b2
    have U2 : Aside (LiAt w2 uA uN uC us) := U1.out.below b2
    have HC : Aside _ := HEN.out w2 xA xC l2
    clear HB1 X1 U1 b2 l2 y0 y1 y2 y3 y4 y5 y6 y7 y8 y9 y10 y11 hl1 HEN
    go_wp2_with fail
    refine Calls.mono HC.out ?_
    rintro e w3 ⟨he, b3⟩
    have HB3 : Aside (Below w.heap.size w w3) := HB2.out.trans (b3.mono HB2.out.size)
    have X3 : Aside (ComBox w3 g1 24 ⟨n0, n1, uA, uN, uC, n3, n4, n5, n6, n7, n8, n9, n10, n11⟩) := X2.out.below b3
    have U3 : Aside (LiAt w3 uA uN uC us) := U2.out.below b3
    clear HB2 X2 U2 b3 HC
    rcases he with ⟨hF, a, n, cc, rfl, z1, z2, z3, z4, z5, z6⟩ | ⟨hF, rfl⟩
    · have HFC := Lib.hid hF
      have HC : Aside _ := cm_decode a (comBytes ⟨n0, n1, uA, uN, uC, n3, n4, n5, n6, n7, n8, n9, n10, n11⟩ us) n cc w3 z1 z2 z3 (by omega)
      clear hF z1 z2 z3 z4 z5 z6
      go_wp2_with fail
      refine Calls.mono HC.out ?_
      rintro e w4 ⟨hd, b4⟩
      have HB4 : Aside (Below w.heap.size w w4) := HB3.out.trans (b4.mono HB3.out.size)
      have X4 : Aside (ComBox w4 g1 24 ⟨n0, n1, uA, uN, uC, n3, n4, n5, n6, n7, n8, n9, n10, n11⟩) := X3.out.below b4
      have U4 : Aside (LiAt w4 uA uN uC us) := U3.out.below b4
      clear b4 HC HB3 X3 U3
      rcases hd with ⟨r, vs, hfc, hxs, rfl, hnl, h64, hl, hinj⟩ | ⟨hno, -⟩
      · have HSM : Hid (sameB r ⟨n0, n1, uA, uN, uC, n3, n4, n5, n6, n7, n8, n9, n10, n11⟩ vs us = true) := hinj ⟨n0, n1, uA, uN, uC, n3, n4, n5, n6, n7, n8, n9, n10, n11⟩ us HFC.out rfl
        obtain ⟨m0, m1, xA, xN, xC, m3, m4, m5, m6, m7, m8, m9, m10, m11⟩ := r
        dsimp only at hnl hl
        have NL : Aside (LiAt w4 xA xN xC vs) := hnl.li
        have HL : Hid (xN ≤ 100000) := by show _ ≤ _; omega
        clear hfc hxs hnl h64 hl hinj HFC HF
        go_upto_region 7 with (refine wpList_store_new rfl 30 _ _ rfl _ _ rfl rfl (by kernel_rfl) rfl rfl ?_)
        have HB5 : Aside (Below w.heap.size w (w4.alloc (.cells #[.int .i64 m0, .int .i64 m1, .slice xA xN xC, .int .i64 m3, .int .i64 m4, .bool m5, .int .i64 m6, .int .i64 m7, .int .i64 m8, .int .i64 m9, .int .i64 m10, .bool m11] 30))) := blw_alloc HB4.out _
        have Y5 : Aside (ComBox (w4.alloc (.cells #[.int .i64 m0, .int .i64 m1, .slice xA xN xC, .int .i64 m3, .int .i64 m4, .bool m5, .int .i64 m6, .int .i64 m7, .int .i64 m8, .int .i64 m9, .int .i64 m10, .bool m11] 30)) w4.heap.size 30 ⟨m0, m1, xA, xN, xC, m3, m4, m5, m6, m7, m8, m9, m10, m11⟩) := ComBox.made w4 30 ⟨m0, m1, xA, xN, xC, m3, m4, m5, m6, m7, m8, m9, m10, m11⟩
        have X5 : Aside (ComBox (w4.alloc (.cells #[.int .i64 m0, .int .i64 m1, .slice xA xN xC, .int .i64 m3, .int .i64 m4, .bool m5, .int .i64 m6, .int .i64 m7, .int .i64 m8, .int .i64 m9, .int .i64 m10, .bool m11] 30)) g1 24 ⟨n0, n1, uA, uN, uC, n3, n4, n5, n6, n7, n8, n9, n10, n11⟩) := X4.out.below (upd_box _)
        have L5 : Aside (LiAt (w4.alloc (.cells #[.int .i64 m0, .int .i64 m1, .slice xA xN xC, .int .i64 m3, .int .i64 m4, .bool m5, .int .i64 m6, .int .i64 m7, .int .i64 m8, .int .i64 m9, .int .i64 m10, .bool m11] 30)) xA xN xC vs) := NL.out.below (upd_box _)
        have U5 : Aside (LiAt (w4.alloc (.cells #[.int .i64 m0, .int .i64 m1, .slice xA xN xC, .int .i64 m3, .int .i64 m4, .bool m5, .int .i64 m6, .int .i64 m7, .int .i64 m8, .int .i64 m9, .int .i64 m10, .bool m11] 30)) uA uN uC us) := U4.out.below (upd_box _)
        obtain ⟨g2, hg2⟩ : ∃ g, g = w4.heap.size := ⟨_, rfl⟩
        rw [← hg2] at Y5 ⊢
        clear hg2 HB4 NL X4 U4
        generalize w4.alloc (.cells #[.int .i64 m0, .int .i64 m1, .slice xA xN xC, .int .i64 m3, .int .i64 m4, .bool m5, .int .i64 m6, .int .i64 m7, .int .i64 m8, .int .i64 m9, .int .i64 m10, .bool m11] 30) = v at *
        have hl1 := X5.out.lt
        have hl2 := Y5.out.lt
        obtain ⟨y0, y1, y2, y3, y4, y5, y6, y7, y8, y9, y10, y11⟩ := X5.out.cells
        obtain ⟨z0, z1, z2, z3, z4, z5, z6, z7, z8, z9, z10, z11⟩ := Y5.out.cells
        dsimp only at y0 y1 y2 y3 y4 y5 y6 y7 y8 y9 y10 y11 z0 z1 z2 z3 z4 z5 z6 z7 z8 z9 z10 z11
        have HOU : Aside (∀ X, Below v.heap.size v X → Calls Try.prog 17 #[.agg #[.int .i64 m0, .int .i64 m1, .slice xA xN xC, .int .i64 m3, .int .i64 m4, .bool m5, .int .i64 m6, .int .i64 m7, .int .i64 m8, .int .i64 m9, .int .i64 m10, .bool m11]] X fun e w' => e = .returned (.agg #[.int .i64 m0, .int .i64 m1, .slice xA xN xC, .int .i64 m3, .int .i64 m4, .bool m5, .int .i64 m6, .int .i64 m7, .int .i64 m8, .int .i64 m9, .int .i64 m10, .bool m11]) ∧ Below v.heap.size v w' ∧ Below X.heap.size X w') := fun X hX => by
          refine (law_ours ⟨m0, m1, xA, xN, xC, m3, m4, m5, m6, m7, m8, m9, m10, m11⟩ X).mono ?_
          rintro e w' ⟨rfl, hb⟩
          exact ⟨rfl, hX.trans (hb.mono hX.size), hb⟩
        have HSA : Aside (∀ X, Below v.heap.size v X → Calls Try.prog 16 #[.agg #[.int .i64 m0, .int .i64 m1, .slice xA xN xC, .int .i64 m3, .int .i64 m4, .bool m5, .int .i64 m6, .int .i64 m7, .int .i64 m8, .int .i64 m9, .int .i64 m10, .bool m11], .agg #[.int .i64 n0, .int .i64 n1, .slice uA uN uC, .int .i64 n3, .int .i64 n4, .bool n5, .int .i64 n6, .int .i64 n7, .int .i64 n8, .int .i64 n9, .int .i64 n10, .bool n11]] X fun e w' => e = .returned (.bool true) ∧ Below v.heap.size v w' ∧ Below X.heap.size X w') := fun X hX => by
          refine (law_same ⟨m0, m1, xA, xN, xC, m3, m4, m5, m6, m7, m8, m9, m10, m11⟩ ⟨n0, n1, uA, uN, uC, n3, n4, n5, n6, n7, n8, n9, n10, n11⟩ vs us X (L5.out.below hX) (U5.out.below hX) HL.out (by show uN ≤ _; omega)).mono ?_
          rintro e w' ⟨rfl, hb⟩
          exact ⟨by rw [HSM.out], hX.trans (hb.mono hX.size), hb⟩
        have HT2 : Aside (∀ X, Below v.heap.size v X → Calls Try.prog 10 #[.agg #[.int .i64 n0, .int .i64 n1, .slice uA uN uC, .int .i64 n3, .int .i64 n4, .bool n5, .int .i64 n6, .int .i64 n7, .int .i64 n8, .int .i64 n9, .int .i64 n10, .bool n11]] X fun e w' => ∃ a8 c8, e = .returned (.agg #[.int .i64 n0, .int .i64 n1, .slice a8 uN c8, .int .i64 n3, .int .i64 n4, .bool n5, .int .i64 n6, .int .i64 n7, .int .i64 n8, .int .i64 n9, .int .i64 n10, .bool n11]) ∧ LiAt w' a8 uN c8 us ∧ Below v.heap.size v w' ∧ Below X.heap.size X w') := fun X hX => by
          refine (HTH.out X (U5.out.below hX)).mono ?_
          rintro e w' ⟨⟨a, c, rfl, hl⟩, hb⟩
          exact ⟨a, c, rfl, hl, hX.trans (hb.mono hX.size), hb⟩
        have HEQ : Aside (∀ X a8 c8, Below v.heap.size v X → LiAt X a8 uN c8 us → Calls Try.prog 18 #[.agg #[.int .i64 m0, .int .i64 m1, .slice xA xN xC, .int .i64 m3, .int .i64 m4, .bool m5, .int .i64 m6, .int .i64 m7, .int .i64 m8, .int .i64 m9, .int .i64 m10, .bool m11], .agg #[.int .i64 n0, .int .i64 n1, .slice a8 uN c8, .int .i64 n3, .int .i64 n4, .bool n5, .int .i64 n6, .int .i64 n7, .int .i64 n8, .int .i64 n9, .int .i64 n10, .bool n11]] X fun e w' => e = .returned (.bool true) ∧ Below v.heap.size v w') := fun X a8 c8 hX hl => by
          refine (cm_equal ⟨m0, m1, xA, xN, xC, m3, m4, m5, m6, m7, m8, m9, m10, m11⟩ ⟨n0, n1, a8, uN, c8, n3, n4, n5, n6, n7, n8, n9, n10, n11⟩ vs us X (L5.out.below hX) hl HL.out (by show uN ≤ _; omega)).mono ?_
          rintro e w' ⟨rfl, hb⟩
          exact ⟨by rw [show sameB ⟨m0, m1, xA, xN, xC, m3, m4, m5, m6, m7, m8, m9, m10, m11⟩ ⟨n0, n1, a8, uN, c8, n3, n4, n5, n6, n7, n8, n9, n10, n11⟩ vs us = true from HSM.out], hX.trans (hb.mono hX.size)⟩
        have b0 := Below.refl v.heap.size v
        clear X5 Y5 L5 U5 HTH HSM
        go_region_held3 (fun w' => Below v.heap.size v w' ∧ (∀ o, w'.cell? ⟨g1, o, none⟩ = v.cell? ⟨g1, o, none⟩) ∧ (∀ o, w'.cell? ⟨g2, o, none⟩ = v.cell? ⟨g2, o, none⟩))
          (refine ⟨?_, fun o => Below.cell (p := ⟨g1, o, none⟩) ?_ hl1, fun o => Below.cell (p := ⟨g2, o, none⟩) ?_ hl2⟩ <;> (with_reducible (repeat (first | assumption | refine Below.drew ?_))))
          ((first
            | (go_at_call 17; with_reducible refine Calls.mono (HOU.out _ ?_) ?_; (with_reducible (repeat (first | assumption | refine Below.drew ?_))); rintro e w31 ⟨rfl, b31, l31⟩)
            | (go_at_call 16; with_reducible refine Calls.mono (HSA.out _ ?_) ?_; (with_reducible (repeat (first | assumption | refine Below.drew ?_))); rintro e w32 ⟨rfl, b32, l32⟩)
            | (go_at_call 10; with_reducible refine Calls.mono (HT2.out _ ?_) ?_; (with_reducible (repeat (first | assumption | refine Below.drew ?_))); rintro e w33 ⟨a8, c8, rfl, L33, b33, l33⟩)
            | (go_at_call 18; with_reducible refine Calls.mono (HEQ.out _ _ _ ?_ (LiAt.below L33 (by repeat (first | exact Below.refl _ _ | refine Below.drew ?_)))) ?_; (with_reducible (repeat (first | assumption | refine Below.drew ?_))); rintro e w34 ⟨rfl, b34⟩)))
        all_goals
          have HBF : Aside (Below w.heap.size w w34) := HB5.out.trans (b34.mono HB5.out.size)
          clear b31 b32 b33 b34 l31 l32 l33 L33 b0
          go_wp2
          go_ret
          exact ⟨rfl, HBF.out⟩
      · exact absurd rfl (hno ⟨n0, n1, uA, uN, uC, n3, n4, n5, n6, n7, n8, n9, n10, n11⟩ us HFC.out)
    · go_wp2
      go_ret
      exact ⟨rfl, HB3.out⟩

theorem commandBack_contract (W : World) (args : Array Value) (h : Each Try.prog W Try.f4.params.toList args.toList) :
    Calls Try.prog 4 args W fun e W' => e = .returned (.bool true) ∧ Below W.heap.size W W' := by
  rw [Try.params4] at h
  obtain ⟨v0, r0, e0, ⟨_, o0⟩, d0, h⟩ := h.cons
  obtain rfl := h.nil
  obtain ⟨args⟩ := args
  obtain rfl : args = [v0] := e0
  obtain ⟨R0, us0, rfl, hR0, hf0⟩ := val_com o0 d0
  exact commandBack_law R0 us0 W hR0 hf0

theorem commandBack_lifted (os : Os) (started : os.Started) (H : Type) (enc : TypeId × Value → H) :
    ReturnsInHanded {} Try.checked os 4 .any (Rows.commandBackSpec.pre6 enc Try.prog Try.f4 Rows.commandBackRow.domain false) (Rows.commandBackSpec.post enc Try.prog Try.f4 false true false false) :=
  law_lifted (C := Try.checked) seat_own seat_laid (by kernel_rfl) Try.func4 rfl (tb := 4) rfl Try.underlying4
    (by
      rw [Try.params4]; intro t ht; simp at ht
      obtain rfl := ht; exact ⟨by kernel_rfl, of_decide_eq_true (by kernel_rfl)⟩)
    (fun H ds hl => by
      rw [Try.params4] at hl
      match ds, hl with
      | [d1], _ => rfl)
    os started H enc
    (ChangeSpec.witness6 (enc := enc) (C := Try.checked) false ⟨#[], #[.agg #[.int .i64 0, .int .i64 0, .slice none 0 0, .int .i64 0, .int .i64 0, .bool false, .int .i64 0, .int .i64 0, .int .i64 0, .int .i64 0, .int .i64 0, .bool false]], []⟩ 8 (by kernel_rfl) (by kernel_rfl) (by kernel_rfl) (by kernel_rfl))
    commandBack_contract

theorem commandBack_holds : Rows.CommandBackSaid :=
  OpenClaim.holds_of_wide 4 Try.f4 rfl rfl rfl rfl rfl rfl rfl ⟨rfl, rfl, rfl, rfl, rfl⟩ rfl rfl rfl rfl rfl (by kernel_rfl) Try.func4 (by kernel_rfl)
    (of_decide_eq_true (by kernel_rfl)) (by unfold Func.isWrapper; first | (rw [if_pos (by decide +kernel)]; kernel_rfl) | (rw [if_neg (by decide +kernel)]; exact ⟨rfl, rfl⟩))
    (fun os started H enc _ => commandBack_lifted os started H enc)
#print axioms commandBack_holds
end Go.Proofs.Ytmaoimjfkncnpaa
