/-
  CommandReads: any bytes are a formed command's, just those, or refused. No conditions: every input.
-/
import Derived.Test.YtmaoimjfkncnpaaCmLaw
import Derived.Test.YtmaoimjfkncnpaaCmRef
import Derived.Test.YtmaoimjfkncnpaaCmBytes
namespace Go.Proofs.Ytmaoimjfkncnpaa
open Go.RowKit Go.WideShapes
set_option maxRecDepth 100000

set_option maxHeartbeats 8000000 in
theorem commandReads_law (a : Option Addr) (xs : List UInt8) (n c : Nat) (w : World) (hn : xs.length = n) (hx : IsBytes w a xs) (hnc : a = none → c = 0) :
    Calls Try.prog 5 #[.slice a n c] w fun e w' => e = .returned (.bool true) ∧ Below w.heap.size w w' := by
  have HN := Lib.hid hn
  have HX : Aside (IsBytes w a xs) := hx
  have HNC := Lib.hid hnc
  clear hn hx hnc
  go_enter Try.func5, Try.ntmps5
  go_wp2_with fail
  refine Calls.mono (cm_awake _) ?_
  rintro e w1 ⟨rfl, b1⟩
  have HB1 : Aside (Below w.heap.size w w1) := b1
  clear b1
  by_cases h : 1000 < n
  · have h400 : (1000 : Int) < (n : Int) := by omega
    go_wp2_with fail
    refine Calls.mono (cm_awake _) ?_
    rintro e w2 ⟨rfl, b2⟩
    have HBF : Aside (Below w.heap.size w w2) := HB1.out.trans (b2.mono HB1.out.size)
    clear HB1 b2 HX
    go_wp2
    go_ret
    exact ⟨rfl, HBF.out⟩
  · have h400 : ¬ (1000 : Int) < (n : Int) := by omega
    have HC : Aside _ := cm_decode a xs n c w1 HN.out (HX.out.below HB1.out) HNC.out (by omega)
    have hN : n ≤ maxLen := by unfold maxLen; omega
    have HNM := Lib.hid hN
    clear h hN
    go_wp2_with fail
    refine Calls.mono HC.out ?_
    rintro e w2 ⟨hd, b2⟩
    have HB2 : Aside (Below w.heap.size w w2) := HB1.out.trans (b2.mono HB1.out.size)
    clear b2 HC HB1
    rcases hd with ⟨r, us, hfc, hxs, rfl, hnl, h64, hl, -⟩ | ⟨-, rfl⟩
    · obtain ⟨n0, n1, uA, uN, uC, n3, n4, n5, n6, n7, n8, n9, n10, n11⟩ := r
      dsimp only at hnl hl
      have HFC : Aside (FormedC ⟨n0, n1, uA, uN, uC, n3, n4, n5, n6, n7, n8, n9, n10, n11⟩ us) := hfc
      have HXS := Lib.hid hxs
      have NL : Aside (LiAt w2 uA uN uC us) := hnl.li
      have HL : Hid (uN ≤ 100000) := by show _ ≤ _; omega
      clear hfc hxs hnl h64 hl
      go_upto_region 4 with (refine wpList_store_new rfl 30 _ _ rfl _ _ rfl rfl (by kernel_rfl) rfl rfl ?_)
      have HB3 : Aside (Below w.heap.size w (w2.alloc (.cells #[.int .i64 n0, .int .i64 n1, .slice uA uN uC, .int .i64 n3, .int .i64 n4, .bool n5, .int .i64 n6, .int .i64 n7, .int .i64 n8, .int .i64 n9, .int .i64 n10, .bool n11] 30))) := blw_alloc HB2.out _
      have Y3 : Aside (ComBox (w2.alloc (.cells #[.int .i64 n0, .int .i64 n1, .slice uA uN uC, .int .i64 n3, .int .i64 n4, .bool n5, .int .i64 n6, .int .i64 n7, .int .i64 n8, .int .i64 n9, .int .i64 n10, .bool n11] 30)) w2.heap.size 30 ⟨n0, n1, uA, uN, uC, n3, n4, n5, n6, n7, n8, n9, n10, n11⟩) := ComBox.made w2 30 ⟨n0, n1, uA, uN, uC, n3, n4, n5, n6, n7, n8, n9, n10, n11⟩
      have L3 : Aside (LiAt (w2.alloc (.cells #[.int .i64 n0, .int .i64 n1, .slice uA uN uC, .int .i64 n3, .int .i64 n4, .bool n5, .int .i64 n6, .int .i64 n7, .int .i64 n8, .int .i64 n9, .int .i64 n10, .bool n11] 30)) uA uN uC us) := NL.out.below (upd_box _)
      obtain ⟨g1, hg1⟩ : ∃ g, g = w2.heap.size := ⟨_, rfl⟩
      rw [← hg1] at Y3 ⊢
      clear hg1 HB2 NL
      generalize w2.alloc (.cells #[.int .i64 n0, .int .i64 n1, .slice uA uN uC, .int .i64 n3, .int .i64 n4, .bool n5, .int .i64 n6, .int .i64 n7, .int .i64 n8, .int .i64 n9, .int .i64 n10, .bool n11] 30) = w3 at *
      obtain ⟨y0, y1, y2, y3, y4, y5, y6, y7, y8, y9, y10, y11⟩ := Y3.out.cells
      have hl1 := Y3.out.lt
      dsimp only at y0 y1 y2 y3 y4 y5 y6 y7 y8 y9 y10 y11
      have HOU : Aside (∀ X, Calls Try.prog 17 #[.agg #[.int .i64 n0, .int .i64 n1, .slice uA uN uC, .int .i64 n3, .int .i64 n4, .bool n5, .int .i64 n6, .int .i64 n7, .int .i64 n8, .int .i64 n9, .int .i64 n10, .bool n11]] X fun e w' => e = .returned (.agg #[.int .i64 n0, .int .i64 n1, .slice uA uN uC, .int .i64 n3, .int .i64 n4, .bool n5, .int .i64 n6, .int .i64 n7, .int .i64 n8, .int .i64 n9, .int .i64 n10, .bool n11]) ∧ Below X.heap.size X w') := fun X => law_ours ⟨n0, n1, uA, uN, uC, n3, n4, n5, n6, n7, n8, n9, n10, n11⟩ X
      go_wp2_with fail
      refine Calls.mono (HOU.out _) ?_
      rintro e w4 ⟨rfl, b4⟩
      have HB4 : Aside (Below w.heap.size w w4) := HB3.out.trans (b4.mono HB3.out.size)
      have Y4 : Aside (ComBox w4 g1 30 ⟨n0, n1, uA, uN, uC, n3, n4, n5, n6, n7, n8, n9, n10, n11⟩) := Y3.out.below b4
      have L4 : Aside (LiAt w4 uA uN uC us) := L3.out.below b4
      have HC : Aside _ := ref_formed ⟨n0, n1, uA, uN, uC, n3, n4, n5, n6, n7, n8, n9, n10, n11⟩ us L4.out HL.out
      clear b4 HB3 Y3 L3 y0 y1 y2 y3 y4 y5 y6 y7 y8 y9 y10 y11 hl1
      go_wp2_with fail
      refine Calls.mono HC.out ?_
      rintro e w5 ⟨⟨q, rfl, hq⟩, b5⟩
      obtain rfl : q = true := hq.2 HFC.out
      have HB5 : Aside (Below w.heap.size w w5) := HB4.out.trans (b5.mono HB4.out.size)
      have Y5 : Aside (ComBox w5 g1 30 ⟨n0, n1, uA, uN, uC, n3, n4, n5, n6, n7, n8, n9, n10, n11⟩) := Y4.out.below b5
      have L5 : Aside (LiAt w5 uA uN uC us) := L4.out.below b5
      clear hq b5 HB4 Y4 L4 HC
      obtain ⟨y0, y1, y2, y3, y4, y5, y6, y7, y8, y9, y10, y11⟩ := Y5.out.cells
      have hl1 := Y5.out.lt
      dsimp only at y0 y1 y2 y3 y4 y5 y6 y7 y8 y9 y10 y11
      go_wp2_with fail
      refine Calls.mono (HOU.out _) ?_
      rintro e w6 ⟨rfl, b6⟩
      have HB6 : Aside (Below w.heap.size w w6) := HB5.out.trans (b6.mono HB5.out.size)
      have HC : Aside _ := law_bytes ⟨n0, n1, uA, uN, uC, n3, n4, n5, n6, n7, n8, n9, n10, n11⟩ us (L5.out.below b6) HFC.out
      clear b6 HB5 Y5 L5 HOU y0 y1 y2 y3 y4 y5 y6 y7 y8 y9 y10 y11 hl1
      go_wp2_with fail
      refine Calls.mono HC.out ?_
      rintro e w7 ⟨⟨a7, n7', c7, rfl, r7⟩, b7⟩
      obtain ⟨i7, e7, -, m7, -⟩ := bytes_of_row r7
      have HB7 : Aside (Below w.heap.size w w7) := HB6.out.trans (b7.mono HB6.out.size)
      have HC : Aside _ := bytes_any a7 a n7' n c7 c (comBytes ⟨n0, n1, uA, uN, uC, n3, n4, n5, n6, n7, n8, n9, n10, n11⟩ us) xs w7 e7.symm HN.out i7 (HX.out.below HB7.out) (by rw [e7, ← HXS.out, HN.out]; exact HNM.out) HNM.out
      have HD : Hid (decide (comBytes ⟨n0, n1, uA, uN, uC, n3, n4, n5, n6, n7, n8, n9, n10, n11⟩ us = xs) = true) := decide_eq_true HXS.out.symm
      clear r7 i7 e7 m7 b7 HB6 HFC HX
      generalize decide (comBytes ⟨n0, n1, uA, uN, uC, n3, n4, n5, n6, n7, n8, n9, n10, n11⟩ us = xs) = qq at *
      obtain rfl := HD.out
      go_wp2_with fail
      refine Calls.mono HC.out ?_
      rintro e w8 ⟨rfl, b8⟩
      have HBF : Aside (Below w.heap.size w w8) := HB7.out.trans (b8.mono HB7.out.size)
      clear HC b8 HB7
      go_wp2
      go_ret
      exact ⟨rfl, HBF.out⟩
    · go_upto_region 4 with (refine wpList_store_new rfl 30 _ _ rfl _ _ rfl rfl (by kernel_rfl) rfl rfl ?_)
      have HB3 : Aside (Below w.heap.size w (w2.alloc (.cells #[.int .i64 0, .int .i64 0, .slice none 0 0, .int .i64 0, .int .i64 0, .bool false, .int .i64 0, .int .i64 0, .int .i64 0, .int .i64 0, .int .i64 0, .bool false] 30))) := blw_alloc HB2.out _
      have Y3 : Aside (ComBox (w2.alloc (.cells #[.int .i64 0, .int .i64 0, .slice none 0 0, .int .i64 0, .int .i64 0, .bool false, .int .i64 0, .int .i64 0, .int .i64 0, .int .i64 0, .int .i64 0, .bool false] 30)) w2.heap.size 30 com0) := ComBox.made w2 30 com0
      obtain ⟨g1, hg1⟩ : ∃ g, g = w2.heap.size := ⟨_, rfl⟩
      rw [← hg1] at Y3 ⊢
      clear hg1 HB2
      generalize w2.alloc (.cells #[.int .i64 0, .int .i64 0, .slice none 0 0, .int .i64 0, .int .i64 0, .bool false, .int .i64 0, .int .i64 0, .int .i64 0, .int .i64 0, .int .i64 0, .bool false] 30) = w3 at *
      obtain ⟨y0, y1, y2, y3, y4, y5, y6, y7, y8, y9, y10, y11⟩ := Y3.out.cells
      have hl1 := Y3.out.lt
      unfold com0 at y0 y2
      dsimp only at y0 y2
      clear y1 y3 y4 y5 y6 y7 y8 y9 y10 y11 Y3
      go_wp2
      go_ret
      exact ⟨rfl, HB3.out⟩

theorem commandReads_contract (W : World) (args : Array Value) (h : Each Try.prog W Try.f5.params.toList args.toList) :
    Calls Try.prog 5 args W fun e W' => e = .returned (.bool true) ∧ Below W.heap.size W W' := by
  rw [Try.params5] at h
  obtain ⟨v0, r0, e0, ⟨_, o0⟩, d0, h⟩ := h.cons
  obtain rfl := h.nil
  obtain ⟨args⟩ := args
  obtain rfl : args = [v0] := e0
  obtain ⟨sa0, sn0, sc0, rfl, hsc0⟩ := val_slice o0 Try.underlying26
  rw [hsc0] at d0
  obtain ⟨a0', c0', xs0, e, h1, h2, h3, h4⟩ := d0.bytes Try.underlying26 Try.underlying5 (by kernel_rfl)
  injection e with e _
  injection e with e1 e2 e3
  subst e1 e2 e3
  exact commandReads_law sa0 xs0 xs0.length sc0 W rfl h3 h4

theorem commandReads_lifted (os : Os) (started : os.Started) (H : Type) (enc : TypeId × Value → H) :
    ReturnsInHanded {} Try.checked os 5 .any (Rows.commandReadsSpec.pre6 enc Try.prog Try.f5 Rows.commandReadsRow.domain false) (Rows.commandReadsSpec.post enc Try.prog Try.f5 false true false false) :=
  law_lifted (C := Try.checked) seat_own seat_laid (by kernel_rfl) Try.func5 rfl (tb := 4) rfl Try.underlying4
    (by
      rw [Try.params5]; intro t ht; simp at ht
      obtain rfl := ht; exact ⟨by kernel_rfl, of_decide_eq_true (by kernel_rfl)⟩)
    (fun H ds hl => by
      rw [Try.params5] at hl
      match ds, hl with
      | [d1], _ => rfl)
    os started H enc
    (ChangeSpec.witness6 (enc := enc) (C := Try.checked) false ⟨#[], #[.slice none 0 0], []⟩ 8 (by kernel_rfl) (by kernel_rfl) (by kernel_rfl) (by kernel_rfl))
    commandReads_contract

theorem commandReads_holds : Rows.CommandReadsSaid :=
  OpenClaim.holds_of_wide 5 Try.f5 rfl rfl rfl rfl rfl rfl rfl ⟨rfl, rfl, rfl, rfl, rfl⟩ rfl rfl rfl rfl rfl (by kernel_rfl) Try.func5 (by kernel_rfl)
    (of_decide_eq_true (by kernel_rfl)) (by unfold Func.isWrapper; first | (rw [if_pos (by decide +kernel)]; kernel_rfl) | (rw [if_neg (by decide +kernel)]; exact ⟨rfl, rfl⟩))
    (fun os started H enc _ => commandReads_lifted os started H enc)
#print axioms commandReads_holds
end Go.Proofs.Ytmaoimjfkncnpaa
