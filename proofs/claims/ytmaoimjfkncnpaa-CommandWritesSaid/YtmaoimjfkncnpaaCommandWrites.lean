/-
  CommandWrites: any command is formed, and has the bytes that the document says, or not. No conditions: every input.
-/
import Derived.Test.YtmaoimjfkncnpaaCmLaw
import Derived.Test.YtmaoimjfkncnpaaCmRef
import Derived.Test.YtmaoimjfkncnpaaCmBytes
namespace Go.Proofs.Ytmaoimjfkncnpaa
open Go.RowKit Go.WideShapes
set_option maxRecDepth 100000

set_option maxHeartbeats 8000000 in
theorem commandWrites_law (R : Com) (us : List Int) (w : World) (hR : LiAt w R.uA R.uN R.uC us) (hf : Fit64 R us) :
    Calls Try.prog 3 #[.agg #[.int .i64 R.kind, .int .i64 R.ord, .slice R.uA R.uN R.uC, .int .i64 R.rea, .int .i64 R.want, .bool R.cred, .int .i64 R.rma, .int .i64 R.unit, .int .i64 R.grd, .int .i64 R.days, .int .i64 R.key, .bool R.yes]] w fun e w' => e = .returned (.bool true) ∧ Below w.heap.size w w' := by
  obtain ⟨n0, n1, uA, uN, uC, n3, n4, n5, n6, n7, n8, n9, n10, n11⟩ := R
  dsimp only at *
  obtain ⟨W, hW, hs2, hb2, X1⟩ := one_box w 24 ⟨n0, n1, uA, uN, uC, n3, n4, n5, n6, n7, n8, n9, n10, n11⟩
  dsimp only at hW
  have HX : Aside (ComBox W w.heap.size 24 ⟨n0, n1, uA, uN, uC, n3, n4, n5, n6, n7, n8, n9, n10, n11⟩) := X1
  have HB : Aside (Below w.heap.size w W) := hb2
  have HU : Aside (LiAt W uA uN uC us) := hR.below hb2
  have HF : Aside (Fit64 ⟨n0, n1, uA, uN, uC, n3, n4, n5, n6, n7, n8, n9, n10, n11⟩ us) := hf
  clear hR hf X1 hb2 hs2
  go_enter Try.func3, Try.ntmps3
  go_wp2_with fail
  rw [← hW]
  clear hW
  obtain ⟨g1, hg1⟩ : ∃ g, g = w.heap.size := ⟨_, rfl⟩
  rw [← hg1] at HX ⊢
  clear hg1
  refine Calls.mono (cm_awake _) ?_
  rintro e w1 ⟨rfl, b1⟩
  have HB1 : Aside (Below w.heap.size w w1) := HB.out.trans (b1.mono HB.out.size)
  have X1 : Aside (ComBox w1 g1 24 ⟨n0, n1, uA, uN, uC, n3, n4, n5, n6, n7, n8, n9, n10, n11⟩) := HX.out.below b1
  have U1 : Aside (LiAt w1 uA uN uC us) := HU.out.below b1
  clear HB HX HU b1
  obtain ⟨y0, y1, y2, y3, y4, y5, y6, y7, y8, y9, y10, y11⟩ := X1.out.cells
  have hl1 := X1.out.lt
  dsimp only at y0 y1 y2 y3 y4 y5 y6 y7 y8 y9 y10 y11
  by_cases h : 400 < uN
  · have h400 : (400 : Int) < (uN : Int) := by omega
    go_wp2_with fail
    refine Calls.mono (cm_awake _) ?_
    rintro e w2 ⟨rfl, b2⟩
    have HBF : Aside (Below w.heap.size w w2) := HB1.out.trans (b2.mono HB1.out.size)
    clear HB1 X1 U1 b2 y0 y1 y2 y3 y4 y5 y6 y7 y8 y9 y10 y11 hl1
    go_wp2
    go_ret
    exact ⟨rfl, HBF.out⟩
  · have h400 : ¬ (400 : Int) < (uN : Int) := by omega
    have hN : uN ≤ 400 := by omega
    have HTH : Aside (∀ X, LiAt X uA uN uC us → Calls Try.prog 10 #[.agg #[.int .i64 n0, .int .i64 n1, .slice uA uN uC, .int .i64 n3, .int .i64 n4, .bool n5, .int .i64 n6, .int .i64 n7, .int .i64 n8, .int .i64 n9, .int .i64 n10, .bool n11]] X fun e w' => (∃ xA xC, e = .returned (.agg #[.int .i64 n0, .int .i64 n1, .slice xA uN xC, .int .i64 n3, .int .i64 n4, .bool n5, .int .i64 n6, .int .i64 n7, .int .i64 n8, .int .i64 n9, .int .i64 n10, .bool n11]) ∧ LiAt w' xA uN xC us) ∧ Below X.heap.size X w') := fun X hX => by
      refine (law_theirs ⟨n0, n1, uA, uN, uC, n3, n4, n5, n6, n7, n8, n9, n10, n11⟩ us X hX (by show uN ≤ _; omega)).mono ?_
      rintro e w' ⟨⟨a, c, rfl, hn⟩, hb⟩
      exact ⟨⟨a, c, rfl, hn.li⟩, hb⟩
    have HEN : Aside (∀ X xA xC, LiAt X xA uN xC us → Calls Try.prog 9 #[.agg #[.int .i64 n0, .int .i64 n1, .slice xA uN xC, .int .i64 n3, .int .i64 n4, .bool n5, .int .i64 n6, .int .i64 n7, .int .i64 n8, .int .i64 n9, .int .i64 n10, .bool n11]] X fun e w' => EncE ⟨n0, n1, uA, uN, uC, n3, n4, n5, n6, n7, n8, n9, n10, n11⟩ us e w' ∧ Below X.heap.size X w') := fun X xA xC hX => by
      refine (cm_encode ⟨n0, n1, xA, uN, xC, n3, n4, n5, n6, n7, n8, n9, n10, n11⟩ us hX (HF.out.at1 xA xC) (by show uN ≤ _; omega)).mono ?_
      rintro e w' ⟨h, hb⟩
      refine ⟨?_, hb⟩
      rcases h with ⟨h, h2⟩ | ⟨h, h2⟩
      · exact .inl ⟨(FormedC.at1 xA xC).1 h, h2⟩
      · exact .inr ⟨fun f => h ((FormedC.at1 (r := ⟨n0, n1, uA, uN, uC, n3, n4, n5, n6, n7, n8, n9, n10, n11⟩) xA xC).2 f), h2⟩
    have HFO : Aside (∀ X xA xC, LiAt X xA uN xC us → Calls Try.prog 12 #[.agg #[.int .i64 n0, .int .i64 n1, .slice xA uN xC, .int .i64 n3, .int .i64 n4, .bool n5, .int .i64 n6, .int .i64 n7, .int .i64 n8, .int .i64 n9, .int .i64 n10, .bool n11]] X fun e w' => TellsF ⟨n0, n1, uA, uN, uC, n3, n4, n5, n6, n7, n8, n9, n10, n11⟩ us e ∧ Below X.heap.size X w') := fun X xA xC hX => by
      refine (cm_formed ⟨n0, n1, xA, uN, xC, n3, n4, n5, n6, n7, n8, n9, n10, n11⟩ us hX (HF.out.at1 xA xC) (by show uN ≤ _; omega)).mono ?_
      rintro e w' ⟨⟨q, rfl, hq⟩, hb⟩
      exact ⟨⟨q, rfl, hq.trans (FormedC.at1 (r := ⟨n0, n1, uA, uN, uC, n3, n4, n5, n6, n7, n8, n9, n10, n11⟩) xA xC)⟩, hb⟩
    clear h
    go_wp2_with fail
    refine Calls.mono (HTH.out _ U1.out) ?_
    rintro e w2 ⟨⟨xA, xC, rfl, l2⟩, b2⟩
    have HB2 : Aside (Below w.heap.size w w2) := HB1.out.trans (b2.mono HB1.out.size)
    have X2 : Aside (ComBox w2 g1 24 ⟨n0, n1, uA, uN, uC, n3, n4, n5, n6, n7, n8, n9, n10, n11⟩) := X1.out.below b2
    have U2 : Aside (LiAt w2 uA uN uC us) := U1.out.below b2
    have HC : Aside _ := HEN.out w2 xA xC l2
    clear HB1 X1 U1 b2 l2 y0 y1 y2 y3 y4 y5 y6 y7 y8 y9 y10 y11 hl1 HEN
    go_wp2_with fail
    refine Calls.mono HC.out ?_
    rintro e w3 ⟨he, b3⟩
    have HB3 : Aside (Below w.heap.size w w3) := HB2.out.trans (b3.mono HB2.out.size)
    have X3 : Aside (ComBox w3 g1 24 ⟨n0, n1, uA, uN, uC, n3, n4, n5, n6, n7, n8, n9, n10, n11⟩) := X2.out.below b3
    have U3 : Aside (LiAt w3 uA uN uC us) := U2.out.below b3
    clear HB2 X2 U2 b3 HC
    obtain ⟨y0, y1, y2, y3, y4, y5, y6, y7, y8, y9, y10, y11⟩ := X3.out.cells
    have hl1 := X3.out.lt
    dsimp only at y0 y1 y2 y3 y4 y5 y6 y7 y8 y9 y10 y11
    have HC : Aside _ := ref_formed ⟨n0, n1, uA, uN, uC, n3, n4, n5, n6, n7, n8, n9, n10, n11⟩ us U3.out (by show uN ≤ _; omega)
    rcases he with ⟨hF, a, n, cc, rfl, z1, z2, z3, z4, z5, z6⟩ | ⟨hF, rfl⟩
    · have HFC := Lib.hid hF
      have Z1 := Lib.hid z1
      have Z2 : Aside (IsBytes w3 a (comBytes ⟨n0, n1, uA, uN, uC, n3, n4, n5, n6, n7, n8, n9, n10, n11⟩ us)) := z2
      have Z5 : Hid (n ≤ maxLen) := by show _ ≤ _; omega
      clear hF z1 z2 z3 z4 z5 z6
      go_wp2_with fail
      refine Calls.mono HC.out ?_
      rintro e w4 ⟨⟨q, rfl, hq⟩, b4⟩
      obtain rfl : q = true := hq.2 HFC.out
      have HB4 : Aside (Below w.heap.size w w4) := HB3.out.trans (b4.mono HB3.out.size)
      have X4 : Aside (ComBox w4 g1 24 ⟨n0, n1, uA, uN, uC, n3, n4, n5, n6, n7, n8, n9, n10, n11⟩) := X3.out.below b4
      have U4 : Aside (LiAt w4 uA uN uC us) := U3.out.below b4
      have Z4 : Aside (IsBytes w4 a (comBytes ⟨n0, n1, uA, uN, uC, n3, n4, n5, n6, n7, n8, n9, n10, n11⟩ us)) := Z2.out.below b4
      clear hq b4 HB3 X3 U3 HC Z2 y0 y1 y2 y3 y4 y5 y6 y7 y8 y9 y10 y11 hl1
      obtain ⟨y0, y1, y2, y3, y4, y5, y6, y7, y8, y9, y10, y11⟩ := X4.out.cells
      have hl1 := X4.out.lt
      dsimp only at y0 y1 y2 y3 y4 y5 y6 y7 y8 y9 y10 y11
      go_wp2_with fail
      refine Calls.mono (HTH.out _ U4.out) ?_
      rintro e w5 ⟨⟨zA, zC, rfl, l5⟩, b5⟩
      have HB5 : Aside (Below w.heap.size w w5) := HB4.out.trans (b5.mono HB4.out.size)
      have X5 : Aside (ComBox w5 g1 24 ⟨n0, n1, uA, uN, uC, n3, n4, n5, n6, n7, n8, n9, n10, n11⟩) := X4.out.below b5
      have U5 : Aside (LiAt w5 uA uN uC us) := U4.out.below b5
      have Z5' : Aside (IsBytes w5 a (comBytes ⟨n0, n1, uA, uN, uC, n3, n4, n5, n6, n7, n8, n9, n10, n11⟩ us)) := Z4.out.below b5
      have HC : Aside _ := HFO.out w5 zA zC l5
      clear l5 b5 HB4 X4 U4 Z4 HTH HFO y0 y1 y2 y3 y4 y5 y6 y7 y8 y9 y10 y11 hl1
      go_wp2_with fail
      refine Calls.mono HC.out ?_
      rintro e w6 ⟨⟨q, rfl, hq⟩, b6⟩
      obtain rfl : q = true := hq.2 HFC.out
      have HB6 : Aside (Below w.heap.size w w6) := HB5.out.trans (b6.mono HB5.out.size)
      have X6 : Aside (ComBox w6 g1 24 ⟨n0, n1, uA, uN, uC, n3, n4, n5, n6, n7, n8, n9, n10, n11⟩) := X5.out.below b6
      have Z6 : Aside (IsBytes w6 a (comBytes ⟨n0, n1, uA, uN, uC, n3, n4, n5, n6, n7, n8, n9, n10, n11⟩ us)) := Z5'.out.below b6
      have U6 : Aside (LiAt w6 uA uN uC us) := U5.out.below b6
      clear hq b6 HB5 X5 U5 HC Z5'
      obtain ⟨y0, y1, y2, y3, y4, y5, y6, y7, y8, y9, y10, y11⟩ := X6.out.cells
      have hl1 := X6.out.lt
      dsimp only at y0 y1 y2 y3 y4 y5 y6 y7 y8 y9 y10 y11
      have HC : Aside _ := law_bytes ⟨n0, n1, uA, uN, uC, n3, n4, n5, n6, n7, n8, n9, n10, n11⟩ us U6.out HFC.out
      go_wp2_with fail
      refine Calls.mono HC.out ?_
      rintro e w7 ⟨⟨a7, n7', c7, rfl, r7⟩, b7⟩
      obtain ⟨i7, e7, -, m7, -⟩ := bytes_of_row r7
      have HB7 : Aside (Below w.heap.size w w7) := HB6.out.trans (b7.mono HB6.out.size)
      have HC : Aside _ := bytes_any a a7 n n7' cc c7 (comBytes ⟨n0, n1, uA, uN, uC, n3, n4, n5, n6, n7, n8, n9, n10, n11⟩ us) (comBytes ⟨n0, n1, uA, uN, uC, n3, n4, n5, n6, n7, n8, n9, n10, n11⟩ us) w7 Z1.out e7.symm (Z6.out.below b7) i7 Z5.out (by rw [e7, Z1.out]; exact Z5.out)
      have HD : Hid (decide (comBytes ⟨n0, n1, uA, uN, uC, n3, n4, n5, n6, n7, n8, n9, n10, n11⟩ us = comBytes ⟨n0, n1, uA, uN, uC, n3, n4, n5, n6, n7, n8, n9, n10, n11⟩ us) = true) := decide_eq_true rfl
      clear r7 i7 e7 m7 b7 HB6 X6 U6 Z6 Z1 Z5 HFC y0 y1 y2 y3 y4 y5 y6 y7 y8 y9 y10 y11 hl1
      generalize decide (comBytes ⟨n0, n1, uA, uN, uC, n3, n4, n5, n6, n7, n8, n9, n10, n11⟩ us = comBytes ⟨n0, n1, uA, uN, uC, n3, n4, n5, n6, n7, n8, n9, n10, n11⟩ us) = qq at *
      obtain rfl := HD.out
      go_wp2_with fail
      refine Calls.mono HC.out ?_
      rintro e w8 ⟨rfl, b8⟩
      have HBF : Aside (Below w.heap.size w w8) := HB7.out.trans (b8.mono HB7.out.size)
      clear HC b8 HB7
      go_wp2
      go_ret
      exact ⟨rfl, HBF.out⟩
    · have HFC := Lib.hid hF
      clear hF
      go_wp2_with fail
      refine Calls.mono HC.out ?_
      rintro e w4 ⟨⟨q, rfl, hq⟩, b4⟩
      obtain rfl : q = false := Bool.eq_false_iff.2 (fun h => HFC.out (hq.1 h))
      have HB4 : Aside (Below w.heap.size w w4) := HB3.out.trans (b4.mono HB3.out.size)
      have X4 : Aside (ComBox w4 g1 24 ⟨n0, n1, uA, uN, uC, n3, n4, n5, n6, n7, n8, n9, n10, n11⟩) := X3.out.below b4
      have U4 : Aside (LiAt w4 uA uN uC us) := U3.out.below b4
      clear hq b4 HB3 X3 U3 HC y0 y1 y2 y3 y4 y5 y6 y7 y8 y9 y10 y11 hl1
      obtain ⟨y0, y1, y2, y3, y4, y5, y6, y7, y8, y9, y10, y11⟩ := X4.out.cells
      have hl1 := X4.out.lt
      dsimp only at y0 y1 y2 y3 y4 y5 y6 y7 y8 y9 y10 y11
      go_wp2_with fail
      refine Calls.mono (HTH.out _ U4.out) ?_
      rintro e w5 ⟨⟨zA, zC, rfl, l5⟩, b5⟩
      have HB5 : Aside (Below w.heap.size w w5) := HB4.out.trans (b5.mono HB4.out.size)
      have HC : Aside _ := HFO.out w5 zA zC l5
      clear l5 b5 HB4 X4 U4 HTH HFO y0 y1 y2 y3 y4 y5 y6 y7 y8 y9 y10 y11 hl1
      go_wp2_with fail
      refine Calls.mono HC.out ?_
      rintro e w6 ⟨⟨q, rfl, hq⟩, b6⟩
      obtain rfl : q = false := Bool.eq_false_iff.2 (fun h => HFC.out (hq.1 h))
      have HBF : Aside (Below w.heap.size w w6) := HB5.out.trans (b6.mono HB5.out.size)
      clear hq b6 HB5 HC
      go_wp2
      go_ret
      exact ⟨rfl, HBF.out⟩

theorem commandWrites_contract (W : World) (args : Array Value) (h : Each Try.prog W Try.f3.params.toList args.toList) :
    Calls Try.prog 3 args W fun e W' => e = .returned (.bool true) ∧ Below W.heap.size W W' := by
  rw [Try.params3] at h
  obtain ⟨v0, r0, e0, ⟨_, o0⟩, d0, h⟩ := h.cons
  obtain rfl := h.nil
  obtain ⟨args⟩ := args
  obtain rfl : args = [v0] := e0
  obtain ⟨R0, us0, rfl, hR0, hf0⟩ := val_com o0 d0
  exact commandWrites_law R0 us0 W hR0 hf0

theorem commandWrites_lifted (os : Os) (started : os.Started) (H : Type) (enc : TypeId × Value → H) :
    ReturnsInHanded {} Try.checked os 3 .any (Rows.commandWritesSpec.pre6 enc Try.prog Try.f3 Rows.commandWritesRow.domain false) (Rows.commandWritesSpec.post enc Try.prog Try.f3 false true false false) :=
  law_lifted (C := Try.checked) seat_own seat_laid (by kernel_rfl) Try.func3 rfl (tb := 4) rfl Try.underlying4
    (by
      rw [Try.params3]; intro t ht; simp at ht
      obtain rfl := ht; exact ⟨by kernel_rfl, of_decide_eq_true (by kernel_rfl)⟩)
    (fun H ds hl => by
      rw [Try.params3] at hl
      match ds, hl with
      | [d1], _ => rfl)
    os started H enc
    (ChangeSpec.witness6 (enc := enc) (C := Try.checked) false ⟨#[], #[.agg #[.int .i64 0, .int .i64 0, .slice none 0 0, .int .i64 0, .int .i64 0, .bool false, .int .i64 0, .int .i64 0, .int .i64 0, .int .i64 0, .int .i64 0, .bool false]], []⟩ 8 (by kernel_rfl) (by kernel_rfl) (by kernel_rfl) (by kernel_rfl))
    commandWrites_contract

theorem commandWrites_holds : Rows.CommandWritesSaid :=
  OpenClaim.holds_of_wide 3 Try.f3 rfl rfl rfl rfl rfl rfl rfl ⟨rfl, rfl, rfl, rfl, rfl⟩ rfl rfl rfl rfl rfl (by kernel_rfl) Try.func3 (by kernel_rfl)
    (of_decide_eq_true (by kernel_rfl)) (by unfold Func.isWrapper; first | (rw [if_pos (by decide +kernel)]; kernel_rfl) | (rw [if_neg (by decide +kernel)]; exact ⟨rfl, rfl⟩))
    (fun os started H enc _ => commandWrites_lifted os started H enc)
#print axioms commandWrites_holds
end Go.Proofs.Ytmaoimjfkncnpaa
