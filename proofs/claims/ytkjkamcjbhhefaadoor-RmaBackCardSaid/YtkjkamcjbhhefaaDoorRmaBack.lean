/-
  RmaBack: what is put of a right return is taken as it was, and nothing is left; tied to the program's text. No conditions: every input.
-/
import Derived.Test.YtkjkamcjbhhefaaDoorRmNext
import Derived.Test.YtkjkamcjbhhefaaDoorRmCode
import Derived.Test.YtkjkamcjbhhefaaDoorRmHolds
import Derived.Test.YtkjkamcjbhhefaaDoorRmLRight
import Derived.Test.YtkjkamcjbhhefaaDoorCards
import Derived.Test.YtkjkamcjbhhefaaDoorTie
import Derived.Lib.SmallJoins
import Derived.SevenTiedAt
namespace Go.Proofs.YtkjkamcjbhhefaaDoor
open Go.RowKit Go.WideShapes
set_option maxRecDepth 100000

theorem fits_mk {v : Int} {n : Nat} {m : Int} (h0 : 0 ≤ v) (h1 : v < m) (hm : m = 2 ^ (8 * n)) : fits v n = true := by
  subst hm
  unfold fits
  rw [decide_eq_true h0, decide_eq_true h1]
  rfl
theorem NewLi.over {w : World} {B : Nat} {a : Option Addr} {n c : Nat} {xs : List Int} (h : NewLi w B a n c xs) (h0 : 0 < n) (b o : Nat) (e : a = some ⟨b, o, none⟩) : B ≤ b := by
  obtain ⟨g, _, e1, h1, _⟩ := h.own h0
  rw [e] at e1
  injection e1 with e1
  injection e1 with e1
  omega
/-- What is right goes in. -/
theorem right_fit {r : Ret} {us gs : List Int} (h : rightB r us gs = true) (hu : us.length = r.uN) (hg : gs.length = r.gN) : FitR r us gs ∧ us.length = gs.length ∧ us.length ≤ 200 := by
  rw [right_law] at h
  simp only [Bool.and_eq_true, fromB_true] at h
  obtain ⟨a1, a2, a3, a4, a5, a6, a7, a8, a9, a10, -⟩ := h
  have hn : r.gN = r.uN := by have : (r.gN : Int) = (r.uN : Int) := by simpa using a2
                              omega
  have hok := allB_true.1 a3
  have hu' : ∀ x ∈ us, 0 ≤ x ∧ x ≤ 199 := fun x hx => by
    obtain ⟨i, hi, rfl⟩ := List.getElem_of_mem hx
    have := hok i (by omega)
    unfold okL at this
    simp only [Bool.and_eq_true, fromB_true] at this
    rw [getD_at hi] at this
    exact this.1
  have hg' : ∀ x ∈ gs, -1 ≤ x ∧ x ≤ 4 := fun x hx => by
    obtain ⟨i, hi, rfl⟩ := List.getElem_of_mem hx
    have := hok i (by omega)
    unfold okL at this
    simp only [Bool.and_eq_true, fromB_true] at this
    rw [getD_at hi] at this
    exact this.2.2
  refine ⟨⟨fits_mk (m := 256) (by omega) (by omega) (by decide), fits_mk (m := 256) (by omega) (by omega) (by decide), fits_mk (m := 256) (by omega) (by omega) (by decide), fits_mk (m := 65536) (by omega) (by omega) (by decide), fits_mk (m := 65536) (by omega) (by omega) (by decide), fits_mk (m := 256) (by omega) (by omega) (by decide), fits_mk (m := 4294967296) (by omega) (by omega) (by decide), fits_mk (m := 65536) (by omega) (by omega) (by decide), fun x hx => fits_mk (m := 256) (by have := hu' x hx; omega) (by have := hu' x hx; omega) (by decide), fun x hx => fits_mk (m := 256) (by have := hg' x hx; omega) (by have := hg' x hx; omega) (by decide)⟩, by omega, by omega⟩

set_option maxHeartbeats 8000000 in
theorem rmaBack_law (R : Ret) (us gs : List Int) (w : World) (hS : StepsAt w) (hR : RetAt w R us gs) (h64 : Fit64 R us gs) :
    Calls Tryd.prog 6 #[.agg #[.int .i64 R.num, .int .i64 R.ord, .int .i64 R.rea, .int .i64 R.want, .int .i64 R.res, .bool R.cred, .int .i64 R.st, .int .i64 R.day, .slice R.uA R.uN R.uC, .slice R.gA R.gN R.gC, .int .i64 R.wor, .int .i64 R.pai, .int .i64 R.cre, .int .i64 R.giv]] w fun e w' => e = .returned (.bool true) ∧ Below w.heap.size w w' := by
  have HFR : Aside (∀ w, Calls Tryd.prog 13 #[.agg #[.int .i64 R.num, .int .i64 R.ord, .int .i64 R.rea, .int .i64 R.want, .int .i64 R.res, .bool R.cred, .int .i64 R.st, .int .i64 R.day, .slice R.uA R.uN R.uC, .slice R.gA R.gN R.gC, .int .i64 R.wor, .int .i64 R.pai, .int .i64 R.cre, .int .i64 R.giv]] w fun e w' => e = .returned (.bool (fewB R)) ∧ Below w.heap.size w w') := law_few R
  have HQR : Hid (fewB R = true → R.uN ≤ 300 ∧ R.gN ≤ 300) := fun h => by simpa [fewB] using h
  generalize fewB R = fr at *
  have HS0 := Lib.hid hS
  have HR0 : Aside (RetAt w R us gs) := hR
  have H64 : Aside (Fit64 R us gs) := h64
  clear hS hR h64
  obtain ⟨n0, n1, n2, n3, n4, n5, n6, n7, uA, uN, uC, gA, gN, gC, n10, n11, n12, n13⟩ := R
  dsimp only at *
  obtain ⟨W, hW, hs2, hb2, X1⟩ := one_box w 34 ⟨n0, n1, n2, n3, n4, n5, n6, n7, uA, uN, uC, gA, gN, gC, n10, n11, n12, n13⟩
  dsimp only at hW
  have HB : Aside (Below w.heap.size w W) := hb2
  have HX1 : Aside (RetBox W w.heap.size 34 ⟨n0, n1, n2, n3, n4, n5, n6, n7, uA, uN, uC, gA, gN, gC, n10, n11, n12, n13⟩) := X1
  clear X1 hb2 hs2
  go_enter Tryd.func6, Tryd.ntmps6
  go_wp2_with fail
  rw [← hW]
  clear hW
  obtain ⟨g1, hg1⟩ : ∃ g, g = w.heap.size := ⟨_, rfl⟩
  rw [← hg1] at HX1 ⊢
  clear hg1
  refine Calls.mono (rma_awake (HS0.out.below HB.out)) ?_
  rintro e w1 ⟨rfl, b1⟩
  have HB1 : Aside (Below w.heap.size w w1) := HB.out.trans (b1.mono HB.out.size)
  have HX11 : Aside (RetBox w1 g1 34 ⟨n0, n1, n2, n3, n4, n5, n6, n7, uA, uN, uC, gA, gN, gC, n10, n11, n12, n13⟩) := HX1.out.below b1
  clear HX1 b1 HB
  obtain ⟨y0, y1, y2, y3, y4, y5, y6, y7, y8, y9, y10, y11, y12, y13⟩ := HX11.out.cells
  have hl1 := HX11.out.lt
  go_wp2_with fail
  refine Calls.mono (HFR.out _) ?_
  rintro e w2 ⟨rfl, b2⟩
  have HB2 : Aside (Below w.heap.size w w2) := HB1.out.trans (b2.mono HB1.out.size)
  have HX12 : Aside (RetBox w2 g1 34 ⟨n0, n1, n2, n3, n4, n5, n6, n7, uA, uN, uC, gA, gN, gC, n10, n11, n12, n13⟩) := HX11.out.below b2
  clear HX11 b2 HB1 HFR y0 y1 y2 y3 y4 y5 y6 y7 y8 y9 y10 y11 y12 y13 hl1
  cases fr with
  | false =>
    as_aux_lemma =>
      clear HX12
      go_wp2_with fail
      refine Calls.mono (rma_awake (HS0.out.below HB2.out)) ?_
      rintro e w3 ⟨rfl, b3⟩
      have HB3 : Aside (Below w.heap.size w w3) := HB2.out.trans (b3.mono HB2.out.size)
      clear HB2 b3
      go_wp2
      go_ret
      exact ⟨rfl, HB3.out⟩
  | true =>
    have HQ1 : Hid (uN ≤ 300 ∧ gN ≤ 300) := HQR.out rfl
    clear HQR HS0
    go_upto_region 4 with (fail)
    have HB3 : Aside (Below w.heap.size w (w2.alloc (.cells #[.slice none 0 0, .bool false] 45))) := blw_alloc HB2.out _
    have X3 : Aside (RetBox (w2.alloc (.cells #[.slice none 0 0, .bool false] 45)) g1 34 ⟨n0, n1, n2, n3, n4, n5, n6, n7, uA, uN, uC, gA, gN, gC, n10, n11, n12, n13⟩) := HX12.out.below (upd_box _)
    have O3 : Aside (OutAt (w2.alloc (.cells #[.slice none 0 0, .bool false] 45)) w2.heap.size (fun k => k = w2.heap.size) [] false) := out_made w2
    obtain ⟨po, hpo⟩ : ∃ g, g = w2.heap.size := ⟨_, rfl⟩
    rw [← hpo] at O3 ⊢
    have HPW : Hid (w.heap.size ≤ po ∧ po < (w2.alloc (.cells #[.slice none 0 0, .bool false] 45)).heap.size ∧ g1 ≠ po) := ⟨by have := HB2.out.size; omega, by simp; omega, by have := HX12.out.lt; omega⟩
    clear hpo HB2 HX12
    generalize w2.alloc (.cells #[.slice none 0 0, .bool false] 45) = w3 at *
    obtain ⟨y0, y1, y2, y3, y4, y5, y6, y7, y8, y9, y10, y11, y12, y13⟩ := X3.out.cells
    have hl1 := X3.out.lt
    dsimp only at y0 y1 y2 y3 y4 y5 y6 y7 y8 y9 y10 y11 y12 y13
    have HTH : Aside (Calls Tryd.prog 14 #[.agg #[.int .i64 n0, .int .i64 n1, .int .i64 n2, .int .i64 n3, .int .i64 n4, .bool n5, .int .i64 n6, .int .i64 n7, .slice uA uN uC, .slice gA gN gC, .int .i64 n10, .int .i64 n11, .int .i64 n12, .int .i64 n13]] w3 fun e w' => (∃ a b c d, e = .returned (.agg #[.int .i64 n0, .int .i64 n1, .int .i64 n2, .int .i64 n3, .int .i64 n4, .bool n5, .int .i64 n6, .int .i64 n7, .slice a uN b, .slice c gN d, .int .i64 n10, .int .i64 n11, .int .i64 n12, .int .i64 n13]) ∧ NewRet w' w3.heap.size ⟨n0, n1, n2, n3, n4, n5, n6, n7, a, uN, b, c, gN, d, n10, n11, n12, n13⟩ us gs) ∧ Below w3.heap.size w3 w') := by
      refine (law_theirs ⟨n0, n1, n2, n3, n4, n5, n6, n7, uA, uN, uC, gA, gN, gC, n10, n11, n12, n13⟩ us gs w3 (HR0.out.below HB3.out) (by show uN ≤ _; have := HQ1.out; omega) (by show gN ≤ _; have := HQ1.out; omega)).mono ?_
      rintro e w' ⟨⟨a, b, c, d, rfl, hn⟩, hb⟩
      exact ⟨⟨a, b, c, d, rfl, hn⟩, hb⟩
    go_wp2_with fail
    refine Calls.mono HTH.out ?_
    rintro e w4 ⟨⟨xA, xC, yA, yC, rfl, hn4⟩, b4⟩
    have HB4 : Aside (Below w.heap.size w w4) := HB3.out.trans (b4.mono HB3.out.size)
    have X4 : Aside (RetBox w4 g1 34 ⟨n0, n1, n2, n3, n4, n5, n6, n7, uA, uN, uC, gA, gN, gC, n10, n11, n12, n13⟩) := X3.out.below b4
    have O4 : Aside (OutAt w4 po (fun k => k = po) [] false) := O3.out.below b4
    have HAU : Hid (0 < uN → ∀ b o, xA = some ⟨b, o, none⟩ → ¬ b = po) := fun h0 b o e => by
      have := hn4.u.over h0 b o e
      have := HPW.out
      omega
    have HAG : Hid (0 < gN → ∀ b o, yA = some ⟨b, o, none⟩ → ¬ b = po) := fun h0 b o e => by
      have := hn4.g.over h0 b o e
      have := HPW.out
      omega
    have HRX : Aside (RetAt w4 ⟨n0, n1, n2, n3, n4, n5, n6, n7, xA, uN, xC, yA, gN, yC, n10, n11, n12, n13⟩ us gs) := hn4.ret
    have H64X : Aside (Fit64 ⟨n0, n1, n2, n3, n4, n5, n6, n7, xA, uN, xC, yA, gN, yC, n10, n11, n12, n13⟩ us gs) := ⟨H64.out.num, H64.out.ord, H64.out.rea, H64.out.want, H64.out.res, H64.out.st, H64.out.day, H64.out.wor, H64.out.pai, H64.out.cre, H64.out.giv, H64.out.us, H64.out.gs⟩
    clear HTH hn4 b4 HB3 X3 O3 y0 y1 y2 y3 y4 y5 y6 y7 y8 y9 y10 y11 y12 y13 hl1
    have HC : Aside _ := rma_put ⟨n0, n1, n2, n3, n4, n5, n6, n7, xA, uN, xC, yA, gN, yC, n10, n11, n12, n13⟩ us gs O4.out HRX.out H64X.out (by show uN ≤ _; have := HQ1.out; omega) (by show gN ≤ _; have := HQ1.out; omega) (by simp) HAU.out HAG.out
    go_wp2_with fail
    refine Calls.mono HC.out ?_
    rintro e w6 ⟨rfl, W6, b6, ho⟩
    have u6 : Upd (fun k => k = po) w4 w6 := ((Upd.below b6 (S := fun k => k = po))).trans ho.upd (fun _ _ x => x)
    have HB6 : Aside (Below w.heap.size w w6) := HB4.out.trans (u6.toBelow HB4.out.size (fun k hk e => by have := HPW.out; omega))
    have X6 : Aside (RetBox w6 g1 34 ⟨n0, n1, n2, n3, n4, n5, n6, n7, uA, uN, uC, gA, gN, gC, n10, n11, n12, n13⟩) := X4.out.upd u6 HPW.out.2.2
    have O6 : Aside (OutRun W6 po (fun k => k = po) [] (FitR ⟨n0, n1, n2, n3, n4, n5, n6, n7, xA, uN, xC, yA, gN, yC, n10, n11, n12, n13⟩ us gs) (rmaBytes ⟨n0, n1, n2, n3, n4, n5, n6, n7, xA, uN, xC, yA, gN, yC, n10, n11, n12, n13⟩ us gs) 700 w6) := ho
    clear HC b6 ho u6 HB4 X4 O4 HRX HAU HAG H64X HPW
    have HC : Aside _ := out_end O6.out (by decide)
    go_wp2_with fail
    refine Calls.mono HC.out ?_
    rintro e w7 ⟨⟨ca, m, cc, er, rfl, hq⟩, b7⟩
    have HB7 : Aside (Below w.heap.size w w7) := HB6.out.trans (b7.mono HB6.out.size)
    have X7 : Aside (RetBox w7 g1 34 ⟨n0, n1, n2, n3, n4, n5, n6, n7, uA, uN, uC, gA, gN, gC, n10, n11, n12, n13⟩) := X6.out.below b7
    have HQ : Hid (FitR ⟨n0, n1, n2, n3, n4, n5, n6, n7, xA, uN, xC, yA, gN, yC, n10, n11, n12, n13⟩ us gs → er = 0 ∧ (rmaBytes ⟨n0, n1, n2, n3, n4, n5, n6, n7, xA, uN, xC, yA, gN, yC, n10, n11, n12, n13⟩ us gs).length = m ∧ IsBytes w7 ca (rmaBytes ⟨n0, n1, n2, n3, n4, n5, n6, n7, xA, uN, xC, yA, gN, yC, n10, n11, n12, n13⟩ us gs) ∧ (ca = none → cc = 0) ∧ m ≤ cc ∧ cc ≤ maxLen) := hq
    have HR7 : Aside (RetAt w7 ⟨n0, n1, n2, n3, n4, n5, n6, n7, uA, uN, uC, gA, gN, gC, n10, n11, n12, n13⟩ us gs) := HR0.out.below HB7.out
    have HLR : Aside (Calls Tryd.prog 16 #[.agg #[.int .i64 n0, .int .i64 n1, .int .i64 n2, .int .i64 n3, .int .i64 n4, .bool n5, .int .i64 n6, .int .i64 n7, .slice uA uN uC, .slice gA gN gC, .int .i64 n10, .int .i64 n11, .int .i64 n12, .int .i64 n13]] w7 fun e w' => e = .returned (.bool (rightB ⟨n0, n1, n2, n3, n4, n5, n6, n7, uA, uN, uC, gA, gN, gC, n10, n11, n12, n13⟩ us gs)) ∧ Below w7.heap.size w7 w') := law_right ⟨n0, n1, n2, n3, n4, n5, n6, n7, uA, uN, uC, gA, gN, gC, n10, n11, n12, n13⟩ us gs w7 HR7.out (by show uN ≤ _; have := HQ1.out; omega)
    clear HC hq b7 HB6 X6 O6
    obtain ⟨qr, hqr⟩ : ∃ q, rightB ⟨n0, n1, n2, n3, n4, n5, n6, n7, uA, uN, uC, gA, gN, gC, n10, n11, n12, n13⟩ us gs = q := ⟨_, rfl⟩
    rw [hqr] at HLR
    have HQR := Lib.hid hqr
    clear hqr
    obtain ⟨y0, y1, y2, y3, y4, y5, y6, y7, y8, y9, y10, y11, y12, y13⟩ := X7.out.cells
    have hl1 := X7.out.lt
    dsimp only at y0 y1 y2 y3 y4 y5 y6 y7 y8 y9 y10 y11 y12 y13
    go_wp2_with fail
    refine Calls.mono HLR.out ?_
    rintro e w8 ⟨rfl, b8⟩
    have HB8 : Aside (Below w.heap.size w w8) := HB7.out.trans (b8.mono HB7.out.size)
    have X8 : Aside (RetBox w8 g1 34 ⟨n0, n1, n2, n3, n4, n5, n6, n7, uA, uN, uC, gA, gN, gC, n10, n11, n12, n13⟩) := X7.out.below b8
    have HR8 : Aside (RetAt w8 ⟨n0, n1, n2, n3, n4, n5, n6, n7, uA, uN, uC, gA, gN, gC, n10, n11, n12, n13⟩ us gs) := HR7.out.below b8
    have HB78 : Aside (Below w7.heap.size w7 w8) := b8
    clear b8 HLR HB7 X7 y0 y1 y2 y3 y4 y5 y6 y7 y8 y9 y10 y11 y12 y13 hl1
    cases qr with
    | false =>
      as_aux_lemma =>
        clear X8 HQ
        go_wp2
        go_ret
        exact ⟨rfl, HB8.out⟩
    | true =>
      obtain ⟨hfit, hlen, hl200⟩ := right_fit HQR.out HR8.out.u.len HR8.out.g.len
      have hfx : FitR ⟨n0, n1, n2, n3, n4, n5, n6, n7, xA, uN, xC, yA, gN, yC, n10, n11, n12, n13⟩ us gs := ⟨hfit.num, hfit.ord, hfit.rea, hfit.want, hfit.res, hfit.st, hfit.day, hfit.len, hfit.us, hfit.gs⟩
      obtain ⟨rfl, hm, hby, hnc, hmc, hcm⟩ := HQ.out hfx
      have HFX : Aside (FitR ⟨n0, n1, n2, n3, n4, n5, n6, n7, uA, uN, uC, gA, gN, gC, n10, n11, n12, n13⟩ us gs) := hfit
      have HLN : Hid (us.length = gs.length ∧ us.length ≤ 200) := ⟨hlen, hl200⟩
      have HRB : Hid (rmaBytes ⟨n0, n1, n2, n3, n4, n5, n6, n7, xA, uN, xC, yA, gN, yC, n10, n11, n12, n13⟩ us gs = rmaBytes ⟨n0, n1, n2, n3, n4, n5, n6, n7, uA, uN, uC, gA, gN, gC, n10, n11, n12, n13⟩ us gs) := rfl
      have hm9 : m ≤ 140737488355328 := by rw [← hm, rmaBytes_length]; omega
      have HC : Aside _ := in_new ca (rmaBytes ⟨n0, n1, n2, n3, n4, n5, n6, n7, xA, uN, xC, yA, gN, yC, n10, n11, n12, n13⟩ us gs) m cc w8 hm (hby.below HB78.out) hnc hm9
      clear hfit hlen hl200 hfx hm hby hnc hmc hcm HQ HB78 HR7 hm9
      go_wp2_with fail
      refine Calls.mono HC.out ?_
      rintro e w9 ⟨p, S, rfl, i9, b9, hS9⟩
      have HB9 : Aside (Below w.heap.size w w9) := HB8.out.trans (b9.mono HB8.out.size)
      have I9 : Aside (InAt w9 p S (rmaBytes ⟨n0, n1, n2, n3, n4, n5, n6, n7, xA, uN, xC, yA, gN, yC, n10, n11, n12, n13⟩ us gs) false) := i9
      have X9 : Aside (RetBox w9 g1 34 ⟨n0, n1, n2, n3, n4, n5, n6, n7, uA, uN, uC, gA, gN, gC, n10, n11, n12, n13⟩) := X8.out.below b9
      have HSL : Hid (∀ k, S k → w8.heap.size ≤ k) := hS9
      have HG1 : Hid (g1 < w8.heap.size ∧ w.heap.size ≤ w8.heap.size) := ⟨X8.out.lt, HB8.out.size⟩
      clear HC i9 b9 hS9 HB8 X8 HR8
      have HC : Aside _ := rma_take I9.out
      go_wp2_with fail
      refine Calls.mono HC.out ?_
      rintro e w10 ⟨r, vs, hs, r1, bd, i3, u3, hP, -, hgood⟩
      obtain ⟨hsame, rfl, rfl⟩ := hP.bwd ⟨n0, n1, n2, n3, n4, n5, n6, n7, uA, uN, uC, gA, gN, gC, n10, n11, n12, n13⟩ us gs [] rfl HFX.out H64.out HLN.out.1 HLN.out.2 (by rw [List.append_nil]; exact HRB.out)
      obtain ⟨rfl, nu, ng, hN, hGN, hk64⟩ := hgood rfl
      have HPS : Hid (g1 ≠ p ∧ w.heap.size ≤ p) := ⟨by have := HSL.out p i3.own; have := HG1.out; omega, by have := HSL.out p i3.own; have := HG1.out; omega⟩
      have HB10 : Aside (Below w.heap.size w w10) := HB9.out.trans (u3.toBelow HB9.out.size (fun k hk e => by have := HPS.out; omega))
      have I10 : Aside (InAt w10 p S [] false) := i3
      have X10 : Aside (RetBox w10 g1 34 ⟨n0, n1, n2, n3, n4, n5, n6, n7, uA, uN, uC, gA, gN, gC, n10, n11, n12, n13⟩) := X9.out.upd u3 HPS.out.1
      have HSM : Hid (sameB r ⟨n0, n1, n2, n3, n4, n5, n6, n7, uA, uN, uC, gA, gN, gC, n10, n11, n12, n13⟩ vs us hs gs = true) := hsame
      have HNN : Hid (r.uN ≤ 200 ∧ r.gN = r.uN) := ⟨hN, hGN⟩
      have HRT : Aside (RetAt w10 r vs hs) := ⟨nu.li, ng.li⟩
      clear HC i3 u3 hP hgood hsame nu ng hN hGN hk64 HB9 I9 X9
      obtain ⟨m0, m1, m2, m3, m4, m5, m6, m7, xA, xN, xC, yA, yN, yC, m10, m11, m12, m13⟩ := r
      dsimp only at HNN
      go_upto_region 10 with (refine wpList_store_new rfl 32 _ _ rfl _ _ rfl rfl (by kernel_rfl) rfl rfl ?_)
      have HB11 : Aside (Below w.heap.size w (w10.alloc (.cells #[.int .i64 m0, .int .i64 m1, .int .i64 m2, .int .i64 m3, .int .i64 m4, .bool m5, .int .i64 m6, .int .i64 m7, .slice xA xN xC, .slice yA yN yC, .int .i64 m10, .int .i64 m11, .int .i64 m12, .int .i64 m13] 32))) := blw_alloc HB10.out _
      have I11 : Aside (InAt (w10.alloc (.cells #[.int .i64 m0, .int .i64 m1, .int .i64 m2, .int .i64 m3, .int .i64 m4, .bool m5, .int .i64 m6, .int .i64 m7, .slice xA xN xC, .slice yA yN yC, .int .i64 m10, .int .i64 m11, .int .i64 m12, .int .i64 m13] 32)) p S [] false) := I10.out.below (upd_box _)
      have X11 : Aside (RetBox (w10.alloc (.cells #[.int .i64 m0, .int .i64 m1, .int .i64 m2, .int .i64 m3, .int .i64 m4, .bool m5, .int .i64 m6, .int .i64 m7, .slice xA xN xC, .slice yA yN yC, .int .i64 m10, .int .i64 m11, .int .i64 m12, .int .i64 m13] 32)) g1 34 ⟨n0, n1, n2, n3, n4, n5, n6, n7, uA, uN, uC, gA, gN, gC, n10, n11, n12, n13⟩) := X10.out.below (upd_box _)
      have Y11 : Aside (RetBox (w10.alloc (.cells #[.int .i64 m0, .int .i64 m1, .int .i64 m2, .int .i64 m3, .int .i64 m4, .bool m5, .int .i64 m6, .int .i64 m7, .slice xA xN xC, .slice yA yN yC, .int .i64 m10, .int .i64 m11, .int .i64 m12, .int .i64 m13] 32)) w10.heap.size 32 ⟨m0, m1, m2, m3, m4, m5, m6, m7, xA, xN, xC, yA, yN, yC, m10, m11, m12, m13⟩) := RetBox.made w10 32 ⟨m0, m1, m2, m3, m4, m5, m6, m7, xA, xN, xC, yA, yN, yC, m10, m11, m12, m13⟩
      have HT11 : Aside (RetAt (w10.alloc (.cells #[.int .i64 m0, .int .i64 m1, .int .i64 m2, .int .i64 m3, .int .i64 m4, .bool m5, .int .i64 m6, .int .i64 m7, .slice xA xN xC, .slice yA yN yC, .int .i64 m10, .int .i64 m11, .int .i64 m12, .int .i64 m13] 32)) ⟨m0, m1, m2, m3, m4, m5, m6, m7, xA, xN, xC, yA, yN, yC, m10, m11, m12, m13⟩ vs hs) := HRT.out.below (upd_box _)
      obtain ⟨g7, hg7⟩ : ∃ g, g = w10.heap.size := ⟨_, rfl⟩
      rw [← hg7] at Y11 ⊢
      clear hg7 HB10 I10 X10 HRT
      generalize w10.alloc (.cells #[.int .i64 m0, .int .i64 m1, .int .i64 m2, .int .i64 m3, .int .i64 m4, .bool m5, .int .i64 m6, .int .i64 m7, .slice xA xN xC, .slice yA yN yC, .int .i64 m10, .int .i64 m11, .int .i64 m12, .int .i64 m13] 32) = v at *
      have HR11 : Aside (RetAt v ⟨n0, n1, n2, n3, n4, n5, n6, n7, uA, uN, uC, gA, gN, gC, n10, n11, n12, n13⟩ us gs) := HR0.out.below HB11.out
      have hl1 := X11.out.lt
      have hl7 := Y11.out.lt
      obtain ⟨y0, y1, y2, y3, y4, y5, y6, y7, y8, y9, y10, y11, y12, y13⟩ := X11.out.cells
      obtain ⟨z0, z1, z2, z3, z4, z5, z6, z7, z8, z9, z10, z11, z12, z13⟩ := Y11.out.cells
      dsimp only at y0 y1 y2 y3 y4 y5 y6 y7 y8 y9 y10 y11 y12 y13 z0 z1 z2 z3 z4 z5 z6 z7 z8 z9 z10 z11 z12 z13
      have HOM : Aside (∀ X, Below v.heap.size v X → Calls Tryd.prog 22 #[.agg #[.int .i64 m0, .int .i64 m1, .int .i64 m2, .int .i64 m3, .int .i64 m4, .bool m5, .int .i64 m6, .int .i64 m7, .slice xA xN xC, .slice yA yN yC, .int .i64 m10, .int .i64 m11, .int .i64 m12, .int .i64 m13]] X fun e w' => e = .returned (.agg #[.int .i64 m0, .int .i64 m1, .int .i64 m2, .int .i64 m3, .int .i64 m4, .bool m5, .int .i64 m6, .int .i64 m7, .slice xA xN xC, .slice yA yN yC, .int .i64 m10, .int .i64 m11, .int .i64 m12, .int .i64 m13]) ∧ Below v.heap.size v w') := fun X hX => by
        refine (law_ours ⟨m0, m1, m2, m3, m4, m5, m6, m7, xA, xN, xC, yA, yN, yC, m10, m11, m12, m13⟩ X).mono ?_
        rintro e w' ⟨rfl, hb⟩
        exact ⟨rfl, hX.trans (hb.mono hX.size)⟩
      have HSA : Aside (∀ X, Below v.heap.size v X → Calls Tryd.prog 21 #[.agg #[.int .i64 m0, .int .i64 m1, .int .i64 m2, .int .i64 m3, .int .i64 m4, .bool m5, .int .i64 m6, .int .i64 m7, .slice xA xN xC, .slice yA yN yC, .int .i64 m10, .int .i64 m11, .int .i64 m12, .int .i64 m13], .agg #[.int .i64 n0, .int .i64 n1, .int .i64 n2, .int .i64 n3, .int .i64 n4, .bool n5, .int .i64 n6, .int .i64 n7, .slice uA uN uC, .slice gA gN gC, .int .i64 n10, .int .i64 n11, .int .i64 n12, .int .i64 n13]] X fun e w' => e = .returned (.bool true) ∧ Below v.heap.size v w') := fun X hX => by
        refine (law_same ⟨m0, m1, m2, m3, m4, m5, m6, m7, xA, xN, xC, yA, yN, yC, m10, m11, m12, m13⟩ ⟨n0, n1, n2, n3, n4, n5, n6, n7, uA, uN, uC, gA, gN, gC, n10, n11, n12, n13⟩ vs hs us gs X (HT11.out.below hX) (HR11.out.below hX) (by show xN ≤ _; have := HNN.out; omega) (by show yN ≤ _; have := HNN.out; omega) (by show uN ≤ _; have := HQ1.out; omega) (by show gN ≤ _; have := HQ1.out; omega)).mono ?_
        rintro e w' ⟨rfl, hb⟩
        exact ⟨by rw [HSM.out], hX.trans (hb.mono hX.size)⟩
      have HDN : Aside (∀ X, Below v.heap.size v X → Calls Tryd.prog 27 #[.pointer (some ⟨p, 0, none⟩)] X fun e w' => e = .returned (.bool true) ∧ Below v.heap.size v w') := fun X hX => by
        refine (in_done (I11.out.below hX)).mono ?_
        rintro e w' ⟨rfl, rfl⟩
        exact ⟨rfl, hX⟩
      have b0 := Below.refl v.heap.size v
      clear X11 Y11 HT11 HR11 I11 HR0 H64 HFX
      go_region_held3 (fun w' => Below v.heap.size v w' ∧ (∀ o, w'.cell? ⟨g1, o, none⟩ = v.cell? ⟨g1, o, none⟩) ∧ (∀ o, w'.cell? ⟨g7, o, none⟩ = v.cell? ⟨g7, o, none⟩))
        (refine ⟨?_, fun o => Below.cell (p := ⟨g1, o, none⟩) ?_ hl1, fun o => Below.cell (p := ⟨g7, o, none⟩) ?_ hl7⟩ <;> (with_reducible (repeat (first | assumption | refine Below.drew ?_))))
        ((first
          | (go_at_call 22; with_reducible refine Calls.mono (HOM.out _ ?_) ?_; (with_reducible (repeat (first | assumption | refine Below.drew ?_))); rintro e w31 ⟨rfl, b31⟩)
          | (go_at_call 21; with_reducible refine Calls.mono (HSA.out _ ?_) ?_; (with_reducible (repeat (first | assumption | refine Below.drew ?_))); rintro e w32 ⟨rfl, b32⟩)
          | (go_at_call 27; with_reducible refine Calls.mono (HDN.out _ ?_) ?_; (with_reducible (repeat (first | assumption | refine Below.drew ?_))); rintro e w33 ⟨rfl, b33⟩)))
      all_goals
        have HBF : Aside (Below w.heap.size w w33) := HB11.out.trans (b33.mono HB11.out.size)
        clear b31 b32 b33 b0
        go_wp2
        go_ret
        exact ⟨rfl, HBF.out⟩

theorem rmaBack_contract (W : World) (args : Array Value) (hL : laidMetH Tryd.prog stepsLaid W) (h : Each Tryd.prog W Tryd.f6.params.toList args.toList) :
    Calls Tryd.prog 6 args W fun e W' => e = .returned (.bool true) ∧ Below W.heap.size W W' := by
  rw [Tryd.params6] at h
  obtain ⟨v0, r0, e0, ⟨_, o0⟩, d0, h⟩ := h.cons
  obtain rfl := h.nil
  obtain ⟨args⟩ := args
  obtain rfl : args = [v0] := e0
  obtain ⟨R0, us0, gs0, rfl, hR0, hf0⟩ := val_ret o0 d0
  exact rmaBack_law R0 us0 gs0 W (steps_of_laid hL) hR0 hf0

theorem rmaBack_lifted (os : Os) (started : os.Started) (H : Type) (enc : TypeId × Value → H) :
    ReturnsInHanded {} Tryd.checked os 6 .any (fun w args => (Rows.rmaBackSpec.pre enc Tryd.prog Tryd.f6 [] false w args ∧ laidMetH Tryd.prog stepsLaid w) ∧ sizedMet enc Tryd.prog Tryd.f6 (OpenSpec.ofChange Rows.rmaBackSpec) false w args)
      (Rows.rmaBackSpec.post enc Tryd.prog Tryd.f6 false true false false) :=
  law_lifted_laid (C := Tryd.checked) seat_own seat_laid (by kernel_rfl) Tryd.func6 rfl (tb := 4) rfl Tryd.underlying4
    (by
      rw [Tryd.params6]; intro t ht; simp at ht
      obtain rfl := ht; exact ⟨by kernel_rfl, of_decide_eq_true (by kernel_rfl)⟩)
    (fun H ds hl => by
      rw [Tryd.params6] at hl
      match ds, hl with
      | [d1], _ => rfl)
    os started H enc
    (ChangeSpec.witness_shaped (enc := enc) (C := Tryd.checked) (os := os) (X := fun w _ => laidMetH Tryd.prog stepsLaid w) false (World.doorLaid Tryd.prog 26 os) #[.agg #[.int .i64 0, .int .i64 0, .int .i64 0, .int .i64 0, .int .i64 0, .bool false, .int .i64 0, .int .i64 0, .slice none 0 0, .slice none 0 0, .int .i64 0, .int .i64 0, .int .i64 0, .int .i64 0]] 8 rfl (World.shaped_of_RefB (by kernel_rfl) (by kernel_rfl)) (by kernel_rfl) (by kernel_rfl) (by kernel_rfl) (door_met os _))
    rmaBack_contract

theorem rmaBack_holds : Rows.RmaBackSaid :=
  OpenClaim.holds_of_wide 6 Tryd.f6 rfl rfl rfl rfl rfl rfl rfl ⟨rfl, rfl, rfl, rfl, rfl⟩ rfl rfl rfl rfl rfl (by kernel_rfl) Tryd.func6 (by kernel_rfl)
    (of_decide_eq_true (by kernel_rfl)) (by unfold Func.isWrapper; first | (rw [if_pos (by decide +kernel)]; kernel_rfl) | (rw [if_neg (by decide +kernel)]; exact ⟨rfl, rfl⟩))
    (fun os started H enc _ => rmaBack_lifted os started H enc)

theorem rmaBack_card : Rows.RmaBackCardSaid :=
  Claim7.holds_tied_plain_at .later [] [.data] true _ false
    rmaBack_holds (fun _ h => by cases h) (by kernel_rfl) (fun _ h => by cases h) rmaBack_row_tie rfl ⟨rfl, rfl⟩ (by kernel_rfl) rfl
    (fun f fn hf hfn => by
      obtain rfl : f = 6 := Option.some.inj ((show Tryd.prog.funcNamed "recoup/recouplaw14.RmaBack" = some 6 by kernel_rfl).symm.trans hf) |>.symm
      obtain rfl : fn = Tryd.f6 := (Option.some.inj (Tryd.func6.symm.trans hfn)).symm
      exact ⟨by kernel_rfl, fun j t ht => by
        rw [Tryd.params6] at ht
        have hm : t ∈ [34] := by simpa using Array.mem_of_getElem? ht
        have hall : ([34].all fun u => !Tryd.prog.wantsStandIn u) = true := by kernel_rfl
        exact (show Tryd.prog.wantsStandIn t = false by simpa using List.all_eq_true.1 hall t hm)⟩)
    (by kernel_rfl)
#print axioms rmaBack_card
end Go.Proofs.YtkjkamcjbhhefaaDoor
