/-
  RmaReads: any bytes are taken as a return, or nothing; what is taken is put as the same bytes; tied to the program's text. No conditions: every input.
-/
import Derived.Test.YtkjkamcjbhhefaaDoorRmNext
import Derived.Test.YtkjkamcjbhhefaaDoorRmCode
import Derived.Test.YtkjkamcjbhhefaaDoorCards
import Derived.Test.YtkjkamcjbhhefaaDoorTie
import Derived.Lib.SmallJoins
import Derived.SevenTiedAt
namespace Go.Proofs.YtkjkamcjbhhefaaDoor
open Go.RowKit Go.WideShapes
set_option maxRecDepth 100000

set_option maxHeartbeats 1000000 in
theorem reads_far (a : Option Addr) (n c : Nat) (w : World) (hS : StepsAt w) (h : 2000 < n) :
    Calls Tryd.prog 7 #[.slice a n c] w fun e w' => e = .returned (.bool true) ∧ Below w.heap.size w w' := by
  have h1 : (2000 : Int) < n := by omega
  have HS := Lib.hid hS
  clear hS h
  go_enter Tryd.func7, Tryd.ntmps7
  go_wp2_with fail
  refine Calls.mono (rma_awake HS.out) ?_
  rintro e w1 ⟨rfl, b1⟩
  go_wp2_with fail
  refine Calls.mono (rma_awake (HS.out.below b1)) ?_
  rintro e w2 ⟨rfl, b2⟩
  go_wp2
  go_ret
  exact ⟨rfl, b1.trans (b2.mono b1.size)⟩

set_option maxHeartbeats 8000000 in
theorem reads_near (a : Option Addr) (xs : List UInt8) (n c : Nat) (w : World) (hS : StepsAt w) (hn : xs.length = n) (hx : IsBytes w a xs) (hnc : a = none → c = 0) (h : ¬ 2000 < n) :
    Calls Tryd.prog 7 #[.slice a n c] w fun e w' => e = .returned (.bool true) ∧ Below w.heap.size w w' := by
  have h1 : ¬ (2000 : Int) < n := by omega
  have hn2 : n ≤ 2000 := by omega
  have HS := Lib.hid hS
  have HN := Lib.hid hn
  have HX : Aside (IsBytes w a xs) := hx
  have HNC : Hid (a = none → c = 0) := hnc
  clear hS h hn hx hnc
  go_enter Tryd.func7, Tryd.ntmps7
  go_wp2_with fail
  refine Calls.mono (rma_awake HS.out) ?_
  rintro e w1 ⟨rfl, b1⟩
  have HB1 : Aside (Below w.heap.size w w1) := b1
  have HC : Aside _ := in_new a xs n c w1 HN.out (HX.out.below b1) HNC.out (by omega)
  clear b1
  go_wp2_with fail
  refine Calls.mono HC.out ?_
  rintro e w2 ⟨p, S, rfl, i2, b2, hS2⟩
  have HB2 : Aside (Below w.heap.size w w2) := HB1.out.trans (b2.mono HB1.out.size)
  have I2 : Aside (InAt w2 p S xs false) := i2
  have HSL : Hid (∀ k, S k → w.heap.size ≤ k) := fun k hk => Nat.le_trans HB1.out.size (hS2 k hk)
  clear HC i2 b2 hS2 HB1 HS
  have HC : Aside _ := rma_take I2.out
  go_wp2_with fail
  refine Calls.mono HC.out ?_
  rintro e w3 ⟨r, us, gs, r1, bd, i3, u3, hP, hbad, hgood⟩
  have HB3 : Aside (Below w.heap.size w w3) := HB2.out.trans (u3.toBelow HB2.out.size (fun k hk e => by have := HSL.out p i3.own; omega))
  have I3 : Aside (InAt w3 p S r1 bd) := i3
  have HP : Aside (ReadP xs false r us gs r1 bd) := hP
  have HSZ : Hid (w2.heap.size ≤ w3.heap.size) := u3.size
  clear HC i3 u3 hP I2
  cases bd with
  | true =>
    obtain rfl := hbad rfl
    clear hbad hgood
    as_aux_lemma =>
      go_upto_region 5 with (refine wpList_store_new rfl 32 _ _ rfl _ _ rfl rfl (by kernel_rfl) rfl rfl ?_)
      have HB4 : Aside (Below w.heap.size w (w3.alloc (.cells #[.int .i64 0, .int .i64 0, .int .i64 0, .int .i64 0, .int .i64 0, .bool false, .int .i64 0, .int .i64 0, .slice none 0 0, .slice none 0 0, .int .i64 0, .int .i64 0, .int .i64 0, .int .i64 0] 32))) := blw_alloc HB3.out _
      have I4 : Aside (InAt (w3.alloc (.cells #[.int .i64 0, .int .i64 0, .int .i64 0, .int .i64 0, .int .i64 0, .bool false, .int .i64 0, .int .i64 0, .slice none 0 0, .slice none 0 0, .int .i64 0, .int .i64 0, .int .i64 0, .int .i64 0] 32)) p S r1 true) := I3.out.below (upd_box _)
      have X4 : Aside (RetBox (w3.alloc (.cells #[.int .i64 0, .int .i64 0, .int .i64 0, .int .i64 0, .int .i64 0, .bool false, .int .i64 0, .int .i64 0, .slice none 0 0, .slice none 0 0, .int .i64 0, .int .i64 0, .int .i64 0, .int .i64 0] 32)) w3.heap.size 32 ret0) := RetBox.made w3 32 ret0
      obtain ⟨g4, hg4⟩ : ∃ g, g = w3.heap.size := ⟨_, rfl⟩
      rw [← hg4] at X4 ⊢
      clear hg4 HB3 I3
      generalize w3.alloc (.cells #[.int .i64 0, .int .i64 0, .int .i64 0, .int .i64 0, .int .i64 0, .bool false, .int .i64 0, .int .i64 0, .slice none 0 0, .slice none 0 0, .int .i64 0, .int .i64 0, .int .i64 0, .int .i64 0] 32) = w4 at *
      have HC : Aside _ := in_bad I4.out
      go_wp2_with fail
      refine Calls.mono HC.out ?_
      rintro e w5 ⟨rfl, rfl⟩
      clear HC
      have HEZ : Aside (∀ X, Calls Tryd.prog 20 #[.agg #[.int .i64 0, .int .i64 0, .int .i64 0, .int .i64 0, .int .i64 0, .bool false, .int .i64 0, .int .i64 0, .slice none 0 0, .slice none 0 0, .int .i64 0, .int .i64 0, .int .i64 0, .int .i64 0], .agg #[.int .i64 0, .int .i64 0, .int .i64 0, .int .i64 0, .int .i64 0, .bool false, .int .i64 0, .int .i64 0, .slice none 0 0, .slice none 0 0, .int .i64 0, .int .i64 0, .int .i64 0, .int .i64 0]] X fun e w' => e = .returned (.bool true) ∧ Below X.heap.size X w') := fun X => by
        have := rma_equal ret0 ret0 [] [] [] [] X (retAt0 X) (retAt0 X) (Nat.zero_le _) (Nat.zero_le _) (Nat.zero_le _) (Nat.zero_le _)
        rw [sameB_self] at this
        exact this
      obtain ⟨y0, y1, y2, y3, y4, y5, y6, y7, y8, y9, y10, y11, y12, y13⟩ := X4.out.cells
      have hl1 := X4.out.lt
      unfold ret0 at y0 y1 y2 y3 y4 y5 y6 y7 y8 y9 y10 y11 y12 y13
      dsimp only at y0 y1 y2 y3 y4 y5 y6 y7 y8 y9 y10 y11 y12 y13
      go_wp2_with fail
      refine Calls.mono (HEZ.out _) ?_
      rintro e w6 ⟨rfl, b6⟩
      have HB6 : Aside (Below w.heap.size w w6) := HB4.out.trans (b6.mono HB4.out.size)
      clear b6 HB4 HEZ X4 I4 y0 y1 y2 y3 y4 y5 y6 y7 y8 y9 y10 y11 y12 y13 hl1
      go_wp2
      go_ret
      exact ⟨rfl, HB6.out⟩
  | false =>
    obtain ⟨rfl, nu, ng, hN, hGN, h64⟩ := hgood rfl
    obtain ⟨n0, n1, n2, n3, n4, n5, n6, n7, uA, uN, uC, gA, gN, gC, n10, n11, n12, n13⟩ := r
    dsimp only at nu ng hN hGN
    have NU : Aside (NewLi w3 w2.heap.size uA uN uC us) := nu
    have NG : Aside (NewLi w3 w2.heap.size gA gN gC gs) := ng
    have HNN : Hid (uN ≤ 200 ∧ gN = uN) := ⟨hN, hGN⟩
    have H64 : Aside (Fit64 ⟨n0, n1, n2, n3, n4, n5, n6, n7, uA, uN, uC, gA, gN, gC, n10, n11, n12, n13⟩ us gs) := h64
    clear hbad hgood nu ng hN hGN h64
    go_upto_region 5 with (refine wpList_store_new rfl 32 _ _ rfl _ _ rfl rfl (by kernel_rfl) rfl rfl ?_)
    have HB4 : Aside (Below w.heap.size w (w3.alloc (.cells #[.int .i64 n0, .int .i64 n1, .int .i64 n2, .int .i64 n3, .int .i64 n4, .bool n5, .int .i64 n6, .int .i64 n7, .slice uA uN uC, .slice gA gN gC, .int .i64 n10, .int .i64 n11, .int .i64 n12, .int .i64 n13] 32))) := blw_alloc HB3.out _
    have I4 : Aside (InAt (w3.alloc (.cells #[.int .i64 n0, .int .i64 n1, .int .i64 n2, .int .i64 n3, .int .i64 n4, .bool n5, .int .i64 n6, .int .i64 n7, .slice uA uN uC, .slice gA gN gC, .int .i64 n10, .int .i64 n11, .int .i64 n12, .int .i64 n13] 32)) p S r1 false) := I3.out.below (upd_box _)
    have X4 : Aside (RetBox (w3.alloc (.cells #[.int .i64 n0, .int .i64 n1, .int .i64 n2, .int .i64 n3, .int .i64 n4, .bool n5, .int .i64 n6, .int .i64 n7, .slice uA uN uC, .slice gA gN gC, .int .i64 n10, .int .i64 n11, .int .i64 n12, .int .i64 n13] 32)) w3.heap.size 32 ⟨n0, n1, n2, n3, n4, n5, n6, n7, uA, uN, uC, gA, gN, gC, n10, n11, n12, n13⟩) := RetBox.made w3 32 ⟨n0, n1, n2, n3, n4, n5, n6, n7, uA, uN, uC, gA, gN, gC, n10, n11, n12, n13⟩
    have NU4 : Aside (NewLi (w3.alloc (.cells #[.int .i64 n0, .int .i64 n1, .int .i64 n2, .int .i64 n3, .int .i64 n4, .bool n5, .int .i64 n6, .int .i64 n7, .slice uA uN uC, .slice gA gN gC, .int .i64 n10, .int .i64 n11, .int .i64 n12, .int .i64 n13] 32)) w2.heap.size uA uN uC us) := NU.out.below (upd_box _)
    have NG4 : Aside (NewLi (w3.alloc (.cells #[.int .i64 n0, .int .i64 n1, .int .i64 n2, .int .i64 n3, .int .i64 n4, .bool n5, .int .i64 n6, .int .i64 n7, .slice uA uN uC, .slice gA gN gC, .int .i64 n10, .int .i64 n11, .int .i64 n12, .int .i64 n13] 32)) w2.heap.size gA gN gC gs) := NG.out.below (upd_box _)
    obtain ⟨g4, hg4⟩ : ∃ g, g = w3.heap.size := ⟨_, rfl⟩
    rw [← hg4] at X4 ⊢
    clear hg4 HB3 I3 NU NG
    generalize w3.alloc (.cells #[.int .i64 n0, .int .i64 n1, .int .i64 n2, .int .i64 n3, .int .i64 n4, .bool n5, .int .i64 n6, .int .i64 n7, .slice uA uN uC, .slice gA gN gC, .int .i64 n10, .int .i64 n11, .int .i64 n12, .int .i64 n13] 32) = w4 at *
    have HC : Aside _ := in_bad I4.out
    go_wp2_with fail
    refine Calls.mono HC.out ?_
    rintro e w5 ⟨rfl, rfl⟩
    clear HC
    go_upto_region 8 with (fail)
    have HB5 : Aside (Below w.heap.size w (w4.alloc (.cells #[.slice none 0 0, .bool false] 45))) := blw_alloc HB4.out _
    have I5 : Aside (InAt (w4.alloc (.cells #[.slice none 0 0, .bool false] 45)) p S r1 false) := I4.out.below (upd_box _)
    have X5 : Aside (RetBox (w4.alloc (.cells #[.slice none 0 0, .bool false] 45)) g4 32 ⟨n0, n1, n2, n3, n4, n5, n6, n7, uA, uN, uC, gA, gN, gC, n10, n11, n12, n13⟩) := X4.out.below (upd_box _)
    have O5 : Aside (OutAt (w4.alloc (.cells #[.slice none 0 0, .bool false] 45)) w4.heap.size (fun k => k = w4.heap.size) [] false) := out_made w4
    have HRA : Aside (RetAt (w4.alloc (.cells #[.slice none 0 0, .bool false] 45)) ⟨n0, n1, n2, n3, n4, n5, n6, n7, uA, uN, uC, gA, gN, gC, n10, n11, n12, n13⟩ us gs) := ⟨(NU4.out.below (upd_box _)).li, (NG4.out.below (upd_box _)).li⟩
    obtain ⟨po, hpo⟩ : ∃ g, g = w4.heap.size := ⟨_, rfl⟩
    have HPO : Hid (po = w4.heap.size) := hpo
    rw [← hpo] at O5 ⊢
    have HAU : Hid (0 < uN → ∀ b o, uA = some ⟨b, o, none⟩ → ¬ b = po) := fun h0 b o e => by have := NU4.out.under h0 b o e; omega
    have HAG : Hid (0 < gN → ∀ b o, gA = some ⟨b, o, none⟩ → ¬ b = po) := fun h0 b o e => by have := NG4.out.under h0 b o e; omega
    have HPS : Hid (∀ k, S k → k ≠ po) := fun k hk => by have := I4.out.lt k hk; omega
    have HPW : Hid (w.heap.size ≤ po) := by have := HB4.out.size; show _ ≤ _; omega
    clear hpo HB4 I4 X4 NU4 NG4 HPO
    generalize w4.alloc (.cells #[.slice none 0 0, .bool false] 45) = w5 at *
    have HC : Aside _ := rma_put ⟨n0, n1, n2, n3, n4, n5, n6, n7, uA, uN, uC, gA, gN, gC, n10, n11, n12, n13⟩ us gs O5.out HRA.out H64.out (by show uN ≤ _; have := HNN.out; omega) (by show gN ≤ _; have := HNN.out; omega) (by simp) HAU.out HAG.out
    obtain ⟨y0, y1, y2, y3, y4, y5, y6, y7, y8, y9, y10, y11, y12, y13⟩ := X5.out.cells
    have hl1 := X5.out.lt
    dsimp only at y0 y1 y2 y3 y4 y5 y6 y7 y8 y9 y10 y11 y12 y13
    go_wp2_with fail
    refine Calls.mono HC.out ?_
    rintro e w6 ⟨rfl, W6, b6, ho⟩
    have u6 : Upd (fun k => k = po) w5 w6 := ((Upd.below b6 (S := fun k => k = po))).trans ho.upd (fun _ _ x => x)
    have HB6 : Aside (Below w.heap.size w w6) := HB5.out.trans (u6.toBelow HB5.out.size (fun k hk e => by have := HPW.out; omega))
    have I6 : Aside (InAt w6 p S r1 false) := I5.out.upd u6 HPS.out
    have O6 : Aside (OutRun W6 po (fun k => k = po) [] (FitR ⟨n0, n1, n2, n3, n4, n5, n6, n7, uA, uN, uC, gA, gN, gC, n10, n11, n12, n13⟩ us gs) (rmaBytes ⟨n0, n1, n2, n3, n4, n5, n6, n7, uA, uN, uC, gA, gN, gC, n10, n11, n12, n13⟩ us gs) 700 w6) := ho
    have HRL : Hid (us.length = uN ∧ gs.length = gN) := ⟨HRA.out.u.len, HRA.out.g.len⟩
    clear HC b6 ho u6 HB5 I5 X5 O5 HRA y0 y1 y2 y3 y4 y5 y6 y7 y8 y9 y10 y11 y12 y13 hl1 HAU HAG HPS HPW
    have HC : Aside _ := out_end O6.out (by decide)
    go_wp2_with fail
    refine Calls.mono HC.out ?_
    rintro e w7 ⟨⟨ca, m, cc, er, rfl, hq⟩, b7⟩
    obtain ⟨-, hfit, hrest⟩ := HP.out.fwd rfl
    obtain ⟨rfl, hm, hby, -, hmc, hcm⟩ := hq hfit
    have HB7 : Aside (Below w.heap.size w w7) := HB6.out.trans (b7.mono HB6.out.size)
    have I7 : Aside (InAt w7 p S r1 false) := I6.out.below b7
    have HM := Lib.hid hm
    have HBY : Aside (IsBytes w7 ca (rmaBytes ⟨n0, n1, n2, n3, n4, n5, n6, n7, uA, uN, uC, gA, gN, gC, n10, n11, n12, n13⟩ us gs)) := hby
    have HRE : Hid (xs = rmaBytes ⟨n0, n1, n2, n3, n4, n5, n6, n7, uA, uN, uC, gA, gN, gC, n10, n11, n12, n13⟩ us gs ++ r1) := hrest
    have HL : Hid (m + r1.length = n) := by show _ = _; rw [← HN.out, HRE.out, List.length_append, HM.out]
    have hmn : m ≤ n := by have := HL.out; omega
    clear HC hq b7 hfit hrest hm hby hmc hcm HB6 I6 O6
    have HC : Aside _ := in_left I7.out
    generalize r1.length = k1 at *
    have hk1n : k1 ≤ n := by have := HL.out; omega
    have hne : (((m : Int) + (k1 : Int)) != (n : Int)) = false := by have := HL.out; rw [bne_eq_false_iff_eq]; omega
    go_wp2_with fail
    refine Calls.mono HC.out ?_
    rintro e w8 ⟨rfl, rfl⟩
    clear HC
    have HXX : Aside (IsBytes w7 a xs) := HX.out.below HB7.out
    generalize rmaBytes ⟨n0, n1, n2, n3, n4, n5, n6, n7, uA, uN, uC, gA, gN, gC, n10, n11, n12, n13⟩ us gs = bs at *
    go_wp2
    clear hne
    go_loopw [8, 46] (fun _ i wr => ∃ k : Nat, k ≤ m ∧ i = .int .i64 k ∧ Aside (Below w7.heap.size w7 wr)) (fun _ i _ => m - (intOf i).toNat)
    case atStart => exact ⟨0, Nat.zero_le _, rfl, Below.refl _ _⟩
    case round =>
      obtain ⟨k, hk, rfl, HB⟩ := hrel
      by_cases hlt : k < m
      · have hkm : (k : Int) < (m : Int) := by omega
        have hkn : (k : Int) < (n : Int) := by omega
        have hk0 : (0 : Int) ≤ (k : Int) := by omega
        obtain ⟨b1, o1, hca, hb1, hc1⟩ : ∃ b o, ca = some ⟨b, o, none⟩ ∧ b < w7.heap.size ∧ ∀ i (h : i < bs.length), w7.cell? ⟨b, o + i, none⟩ = some (.int .u8 (bs[i].toNat : Int)) := by
          rcases HBY.out with e | e
          · have := HM.out; rw [e] at this; exact absurd hlt (by have h0 : 0 = m := this; omega)
          · exact e
        obtain ⟨b2, o2, ha2, hb2, hc2⟩ : ∃ b o, a = some ⟨b, o, none⟩ ∧ b < w7.heap.size ∧ ∀ i (h : i < xs.length), w7.cell? ⟨b, o + i, none⟩ = some (.int .u8 (xs[i].toNat : Int)) := by
          rcases HXX.out with e | e
          · have := HN.out; rw [e] at this; exact absurd hkn (by have h0 : 0 = n := this; omega)
          · exact e
        have hkb : k < bs.length := by rw [HM.out]; exact hlt
        have hkx : k < xs.length := by rw [HN.out]; omega
        have e1 : wr.cell? ⟨b1, o1 + k, none⟩ = some (.int .u8 (bs[k].toNat : Int)) := (HB.out.cell (p := ⟨b1, o1 + k, none⟩) hb1).trans (hc1 k hkb)
        have e2 : wr.cell? ⟨b2, o2 + k, none⟩ = some (.int .u8 (xs[k].toNat : Int)) := (HB.out.cell (p := ⟨b2, o2 + k, none⟩) hb2).trans (hc2 k hkx)
        have ex : xs[k] = bs[k] := by
          have := HRE.out
          subst this
          rw [List.getElem_append_left hkb]
        rw [ex] at e2
        clear hc1 hc2 ex
        generalize (bs[k].toNat : Int) = x at *
        have hq : (x != x) = false := by simp
        subst hca ha2
        go_upto_region 15 with (fail)
        go_quiet (fail)
        go_wp2
        go_roundw
        case rel => exact ⟨k + 1, by omega, by go_num, below_drawn HB.out _⟩
        case measure => simp [intOf]; omega
      · obtain rfl : m = k := by omega
        have HBF : Aside (Below w.heap.size w wr) := HB7.out.trans (HB.out.mono HB7.out.size)
        go_wp2
        go_ret
        exact ⟨rfl, HBF.out⟩

theorem rmaReads_law (a : Option Addr) (xs : List UInt8) (n c : Nat) (w : World) (hS : StepsAt w) (hn : xs.length = n) (hx : IsBytes w a xs) (hnc : a = none → c = 0) (_hc : n ≤ c) (_hcm : c ≤ maxLen) :
    Calls Tryd.prog 7 #[.slice a n c] w fun e w' => e = .returned (.bool true) ∧ Below w.heap.size w w' := by
  by_cases h : 2000 < n
  · exact reads_far a n c w hS h
  · exact reads_near a xs n c w hS hn hx hnc h

theorem rmaReads_contract (W : World) (args : Array Value) (hL : laidMetH Tryd.prog stepsLaid W) (h : Each Tryd.prog W Tryd.f7.params.toList args.toList) :
    Calls Tryd.prog 7 args W fun e W' => e = .returned (.bool true) ∧ Below W.heap.size W W' := by
  rw [Tryd.params7] at h
  obtain ⟨v0, r0, e0, ⟨_, o0⟩, d0, h⟩ := h.cons
  obtain rfl := h.nil
  obtain ⟨args⟩ := args
  obtain rfl : args = [v0] := e0
  obtain ⟨sa0, sn0, sc0, rfl, hsc0⟩ := val_slice o0 Tryd.underlying28
  rw [hsc0] at d0
  obtain ⟨a0', c0', xs0, e, h1, h2, h3, h4⟩ := d0.bytes Tryd.underlying28 Tryd.underlying5 (by kernel_rfl)
  injection e with e _
  injection e with e1 e2 e3
  subst e1 e2 e3
  exact rmaReads_law sa0 xs0 xs0.length sc0 W (steps_of_laid hL) rfl h3 h4 h1 h2

theorem rmaReads_lifted (os : Os) (started : os.Started) (H : Type) (enc : TypeId × Value → H) :
    ReturnsInHanded {} Tryd.checked os 7 .any (fun w args => (Rows.rmaReadsSpec.pre enc Tryd.prog Tryd.f7 [] false w args ∧ laidMetH Tryd.prog stepsLaid w) ∧ sizedMet enc Tryd.prog Tryd.f7 (OpenSpec.ofChange Rows.rmaReadsSpec) false w args)
      (Rows.rmaReadsSpec.post enc Tryd.prog Tryd.f7 false true false false) :=
  law_lifted_laid (C := Tryd.checked) seat_own seat_laid (by kernel_rfl) Tryd.func7 rfl (tb := 4) rfl Tryd.underlying4
    (by
      rw [Tryd.params7]; intro t ht; simp at ht
      obtain rfl := ht; exact ⟨by kernel_rfl, of_decide_eq_true (by kernel_rfl)⟩)
    (fun H ds hl => by
      rw [Tryd.params7] at hl
      match ds, hl with
      | [d1], _ => rfl)
    os started H enc
    (ChangeSpec.witness_shaped (enc := enc) (C := Tryd.checked) (os := os) (X := fun w _ => laidMetH Tryd.prog stepsLaid w) false (World.doorLaid Tryd.prog 26 os) #[.slice none 0 0] 8 rfl (World.shaped_of_RefB (by kernel_rfl) (by kernel_rfl)) (by kernel_rfl) (by kernel_rfl) (by kernel_rfl) (door_met os _))
    rmaReads_contract

theorem rmaReads_holds : Rows.RmaReadsSaid :=
  OpenClaim.holds_of_wide 7 Tryd.f7 rfl rfl rfl rfl rfl rfl rfl ⟨rfl, rfl, rfl, rfl, rfl⟩ rfl rfl rfl rfl rfl (by kernel_rfl) Tryd.func7 (by kernel_rfl)
    (of_decide_eq_true (by kernel_rfl)) (by unfold Func.isWrapper; first | (rw [if_pos (by decide +kernel)]; kernel_rfl) | (rw [if_neg (by decide +kernel)]; exact ⟨rfl, rfl⟩))
    (fun os started H enc _ => rmaReads_lifted os started H enc)

theorem rmaReads_card : Rows.RmaReadsCardSaid :=
  Claim7.holds_tied_plain_at .later [] [.data] true _ false
    rmaReads_holds (fun _ h => by cases h) (by kernel_rfl) (fun _ h => by cases h) rmaReads_row_tie rfl ⟨rfl, rfl⟩ (by kernel_rfl) rfl
    (fun f fn hf hfn => by
      obtain rfl : f = 7 := Option.some.inj ((show Tryd.prog.funcNamed "recoup/recouplaw14.RmaReads" = some 7 by kernel_rfl).symm.trans hf) |>.symm
      obtain rfl : fn = Tryd.f7 := (Option.some.inj (Tryd.func7.symm.trans hfn)).symm
      exact ⟨by kernel_rfl, fun j t ht => by
        rw [Tryd.params7] at ht
        have hm : t ∈ [28] := by simpa using Array.mem_of_getElem? ht
        have hall : ([28].all fun u => !Tryd.prog.wantsStandIn u) = true := by kernel_rfl
        exact (show Tryd.prog.wantsStandIn t = false by simpa using List.all_eq_true.1 hall t hm)⟩)
    (by kernel_rfl)
#print axioms rmaReads_card
end Go.Proofs.YtkjkamcjbhhefaaDoor
