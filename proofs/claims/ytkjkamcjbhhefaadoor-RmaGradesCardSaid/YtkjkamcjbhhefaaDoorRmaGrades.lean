/-
  RmaGrades: a unit is graded once; all else of the return stays; it is right, and graded, as the document says; tied to the program's text. No conditions: every input.
-/
import Derived.Test.YtkjkamcjbhhefaaDoorRmNext
import Derived.Test.YtkjkamcjbhhefaaDoorRmLaw
import Derived.Test.YtkjkamcjbhhefaaDoorRmHolds
import Derived.Test.YtkjkamcjbhhefaaDoorRmGrade
import Derived.Test.YtkjkamcjbhhefaaDoorCards
import Derived.Test.YtkjkamcjbhhefaaDoorTie
import Derived.Lib.SmallJoins
import Derived.SevenTiedAt
namespace Go.Proofs.YtkjkamcjbhhefaaDoor
open Go.RowKit Go.WideShapes
set_option maxRecDepth 100000

theorem firstAt_nil (v : Int) : FirstAt [] v (-1) := .inl ⟨rfl, fun k h => by simp at h⟩
theorem FirstAt.bnd {xs : List Int} {v z : Int} (h : FirstAt xs v z) : z = -1 ∨ ∃ m : Nat, z = m ∧ m < xs.length := by
  rcases h with ⟨e, _⟩ | ⟨k, e, hk, _⟩
  · exact .inl e
  · exact .inr ⟨k, e, hk⟩
theorem FirstAt.found {xs : List Int} {v : Int} {k : Nat} (hk : k < xs.length) (h : FirstAt (xs.take k) v (-1)) (e : xs[k] = v) : FirstAt (xs.take (k + 1)) v k := by
  refine .inr ⟨k, rfl, by rw [List.length_take]; omega, by rw [List.getElem_take]; exact e, fun j hj hlt => ?_⟩
  rcases h with ⟨_, h⟩ | ⟨m, hm, _⟩
  · have hj' : j < (xs.take k).length := by rw [List.length_take]; omega
    have := h j hj'
    rwa [List.getElem_take] at this ⊢
  · omega
theorem FirstAt.goes {xs : List Int} {v z : Int} {k : Nat} (hk : k < xs.length) (h : FirstAt (xs.take k) v z) (e : xs[k] ≠ v ∨ z ≠ -1) : FirstAt (xs.take (k + 1)) v z := by
  rcases h with ⟨rfl, h⟩ | ⟨m, rfl, hm, h1, h2⟩
  · refine .inl ⟨rfl, fun j hj => ?_⟩
    rw [List.getElem_take]
    by_cases q : j = k
    · subst q
      exact e.elim (fun x => x) (fun x => absurd rfl x)
    · have hj' : j < (xs.take k).length := by rw [List.length_take] at hj ⊢; omega
      have := h j hj'
      rwa [List.getElem_take] at this
  · have hmk : m < k := by rw [List.length_take] at hm; omega
    refine .inr ⟨m, rfl, by rw [List.length_take]; omega, by rw [List.getElem_take] at h1 ⊢; exact h1, fun j hj hlt => ?_⟩
    have hj' : j < (xs.take k).length := by rw [List.length_take]; omega
    have := h2 j hj' hlt
    rwa [List.getElem_take] at this ⊢
def neB (gs : List Int) (j : Nat) : Bool := gs.getD j 0 != -1
theorem neB_all (gs : List Int) : allB (neB gs) gs.length = !hasB gs (-1) := by
  rw [Bool.eq_iff_iff, allB_true, Bool.not_eq_true']
  unfold hasB neB
  rw [decide_eq_false_iff_not]
  constructor
  · intro h hm
    obtain ⟨j, hj, e⟩ := List.getElem_of_mem hm
    have := h j hj
    rw [getD_at hj, e] at this
    simp at this
  · intro h k hk
    rw [getD_at hk, bne_iff_ne]
    intro e
    exact h (e ▸ List.getElem_mem hk)
theorem allB_succ (p : Nat → Bool) (k : Nat) : allB p (k + 1) = (allB p k && p k) := by
  unfold allB
  rw [List.range_succ, List.all_append]
  simp

set_option maxHeartbeats 16000000 in
theorem rmaGrades_law (R : Ret) (us gs : List Int) (unit grade : Int) (w : World) (hS : StepsAt w) (hR : RetAt w R us gs) (_ : Fit64 R us gs) (_ : I64 unit) (_ : I64 grade) :
    Calls Tryd.prog 5 #[.agg #[.int .i64 R.num, .int .i64 R.ord, .int .i64 R.rea, .int .i64 R.want, .int .i64 R.res, .bool R.cred, .int .i64 R.st, .int .i64 R.day, .slice R.uA R.uN R.uC, .slice R.gA R.gN R.gC, .int .i64 R.wor, .int .i64 R.pai, .int .i64 R.cre, .int .i64 R.giv], .int .i64 unit, .int .i64 grade] w fun e w' => e = .returned (.bool true) ∧ Below w.heap.size w w' := by
  have HFR : Aside (∀ w, Calls Tryd.prog 13 #[.agg #[.int .i64 R.num, .int .i64 R.ord, .int .i64 R.rea, .int .i64 R.want, .int .i64 R.res, .bool R.cred, .int .i64 R.st, .int .i64 R.day, .slice R.uA R.uN R.uC, .slice R.gA R.gN R.gC, .int .i64 R.wor, .int .i64 R.pai, .int .i64 R.cre, .int .i64 R.giv]] w fun e w' => e = .returned (.bool (fewB R)) ∧ Below w.heap.size w w') := law_few R
  have HQR : Hid (fewB R = true → R.uN ≤ 300 ∧ R.gN ≤ 300) := fun h => by simpa [fewB] using h
  generalize fewB R = fr at *
  have HS0 := Lib.hid hS
  have HR0 : Aside (RetAt w R us gs) := hR
  clear hS hR
  obtain ⟨n0, n1, n2, n3, n4, n5, n6, n7, uA, uN, uC, gA, gN, gC, n10, n11, n12, n13⟩ := R
  dsimp only at *
  obtain ⟨W, hW, hs2, hb2, X1⟩ := one_box w 34 ⟨n0, n1, n2, n3, n4, n5, n6, n7, uA, uN, uC, gA, gN, gC, n10, n11, n12, n13⟩
  dsimp only at hW
  have HB : Aside (Below w.heap.size w W) := hb2
  have HX1 : Aside (RetBox W w.heap.size 34 ⟨n0, n1, n2, n3, n4, n5, n6, n7, uA, uN, uC, gA, gN, gC, n10, n11, n12, n13⟩) := X1
  clear X1 hb2 hs2
  go_enter Tryd.func5, Tryd.ntmps5
  go_wp2_with fail
  rw [← hW]
  clear hW
  obtain ⟨g1, hg1⟩ : ∃ g, g = w.heap.size := ⟨_, rfl⟩
  rw [← hg1] at HX1 ⊢
  have HLO : Hid (w.heap.size ≤ g1) := by show _ ≤ _; omega
  clear hg1
  refine Calls.mono (rma_awake (HS0.out.below HB.out)) ?_
  rintro e w1 ⟨rfl, b1⟩
  have HB1 : Aside (Below w.heap.size w w1) := HB.out.trans (b1.mono HB.out.size)
  have HX11 : Aside (RetBox w1 g1 34 ⟨n0, n1, n2, n3, n4, n5, n6, n7, uA, uN, uC, gA, gN, gC, n10, n11, n12, n13⟩) := HX1.out.below b1
  clear HX1 b1 HB
  obtain ⟨y0, y1, y2, y3, y4, y5, y6, y7, y8, y9, y10, y11, y12, y13⟩ := HX11.out.cells
  have hl1 := HX11.out.lt
  go_wp2_with fail
  refine Calls.mono (HFR.out _) ?_
  rintro e w2 ⟨rfl, b2⟩
  have HB2 : Aside (Below w.heap.size w w2) := HB1.out.trans (b2.mono HB1.out.size)
  have HX12 : Aside (RetBox w2 g1 34 ⟨n0, n1, n2, n3, n4, n5, n6, n7, uA, uN, uC, gA, gN, gC, n10, n11, n12, n13⟩) := HX11.out.below b2
  clear HX11 b2 HB1 HFR y0 y1 y2 y3 y4 y5 y6 y7 y8 y9 y10 y11 y12 y13 hl1
  cases fr with
  | false =>
    as_aux_lemma =>
      clear HX12
      go_wp2_with fail
      refine Calls.mono (rma_awake (HS0.out.below HB2.out)) ?_
      rintro e w3 ⟨rfl, b3⟩
      have HB3 : Aside (Below w.heap.size w w3) := HB2.out.trans (b3.mono HB2.out.size)
      clear HB2 b3
      go_wp2
      go_ret
      exact ⟨rfl, HB3.out⟩
  | true =>
    have HQ1 : Hid (uN ≤ 300 ∧ gN ≤ 300) := HQR.out rfl
    clear HQR HS0
    obtain ⟨y0, y1, y2, y3, y4, y5, y6, y7, y8, y9, y10, y11, y12, y13⟩ := HX12.out.cells
    have hl1 := HX12.out.lt
    have HTH : Aside (Calls Tryd.prog 14 #[.agg #[.int .i64 n0, .int .i64 n1, .int .i64 n2, .int .i64 n3, .int .i64 n4, .bool n5, .int .i64 n6, .int .i64 n7, .slice uA uN uC, .slice gA gN gC, .int .i64 n10, .int .i64 n11, .int .i64 n12, .int .i64 n13]] w2 fun e w' => (∃ a b c d, e = .returned (.agg #[.int .i64 n0, .int .i64 n1, .int .i64 n2, .int .i64 n3, .int .i64 n4, .bool n5, .int .i64 n6, .int .i64 n7, .slice a uN b, .slice c gN d, .int .i64 n10, .int .i64 n11, .int .i64 n12, .int .i64 n13]) ∧ RetAt w' ⟨n0, n1, n2, n3, n4, n5, n6, n7, a, uN, b, c, gN, d, n10, n11, n12, n13⟩ us gs) ∧ Below w2.heap.size w2 w') := by
      refine (law_theirs ⟨n0, n1, n2, n3, n4, n5, n6, n7, uA, uN, uC, gA, gN, gC, n10, n11, n12, n13⟩ us gs w2 (HR0.out.below HB2.out) (by show uN ≤ _; have := HQ1.out; omega) (by show gN ≤ _; have := HQ1.out; omega)).mono ?_
      rintro e w' ⟨⟨a, b, c, d, rfl, hn⟩, hb⟩
      exact ⟨⟨a, b, c, d, rfl, hn.ret⟩, hb⟩
    go_wp2_with fail
    refine Calls.mono HTH.out ?_
    rintro e w3 ⟨⟨xA, xC, yA, yC, rfl, hx3⟩, b3⟩
    have HB3 : Aside (Below w.heap.size w w3) := HB2.out.trans (b3.mono HB2.out.size)
    have HX13 : Aside (RetBox w3 g1 34 ⟨n0, n1, n2, n3, n4, n5, n6, n7, uA, uN, uC, gA, gN, gC, n10, n11, n12, n13⟩) := HX12.out.below b3
    have HX3 : Aside (RetAt w3 ⟨n0, n1, n2, n3, n4, n5, n6, n7, xA, uN, xC, yA, gN, yC, n10, n11, n12, n13⟩ us gs) := hx3
    clear HX12 b3 HB2 HTH y0 y1 y2 y3 y4 y5 y6 y7 y8 y9 y10 y11 y12 y13 hl1 hx3
    go_upto_region 4 with (refine wpList_store_new rfl 32 _ _ rfl _ _ rfl rfl (by kernel_rfl) rfl rfl ?_)
    have hV7 := RetBox.made w3 32 ⟨n0, n1, n2, n3, n4, n5, n6, n7, xA, uN, xC, yA, gN, yC, n10, n11, n12, n13⟩
    have hV1 := HX13.out.below (upd_box (.cells #[.int .i64 n0, .int .i64 n1, .int .i64 n2, .int .i64 n3, .int .i64 n4, .bool n5, .int .i64 n6, .int .i64 n7, .slice xA uN xC, .slice yA gN yC, .int .i64 n10, .int .i64 n11, .int .i64 n12, .int .i64 n13] 32))
    have HX4 : Aside (RetAt (w3.alloc (.cells #[.int .i64 n0, .int .i64 n1, .int .i64 n2, .int .i64 n3, .int .i64 n4, .bool n5, .int .i64 n6, .int .i64 n7, .slice xA uN xC, .slice yA gN yC, .int .i64 n10, .int .i64 n11, .int .i64 n12, .int .i64 n13] 32)) ⟨n0, n1, n2, n3, n4, n5, n6, n7, xA, uN, xC, yA, gN, yC, n10, n11, n12, n13⟩ us gs) := HX3.out.below (upd_box _)
    have HB4 : Aside (Below w.heap.size w (w3.alloc (.cells #[.int .i64 n0, .int .i64 n1, .int .i64 n2, .int .i64 n3, .int .i64 n4, .bool n5, .int .i64 n6, .int .i64 n7, .slice xA uN xC, .slice yA gN yC, .int .i64 n10, .int .i64 n11, .int .i64 n12, .int .i64 n13] 32))) := blw_alloc HB3.out _
    have HV1 : Aside (RetBox (w3.alloc (.cells #[.int .i64 n0, .int .i64 n1, .int .i64 n2, .int .i64 n3, .int .i64 n4, .bool n5, .int .i64 n6, .int .i64 n7, .slice xA uN xC, .slice yA gN yC, .int .i64 n10, .int .i64 n11, .int .i64 n12, .int .i64 n13] 32)) g1 34 ⟨n0, n1, n2, n3, n4, n5, n6, n7, uA, uN, uC, gA, gN, gC, n10, n11, n12, n13⟩) := hV1
    obtain ⟨g7, hg7⟩ : ∃ g, g = w3.heap.size := ⟨_, rfl⟩
    rw [← hg7] at hV7 ⊢
    have HV7 : Aside (RetBox (w3.alloc (.cells #[.int .i64 n0, .int .i64 n1, .int .i64 n2, .int .i64 n3, .int .i64 n4, .bool n5, .int .i64 n6, .int .i64 n7, .slice xA uN xC, .slice yA gN yC, .int .i64 n10, .int .i64 n11, .int .i64 n12, .int .i64 n13] 32)) g7 32 ⟨n0, n1, n2, n3, n4, n5, n6, n7, xA, uN, xC, yA, gN, yC, n10, n11, n12, n13⟩) := hV7
    clear hV7 hV1 hg7 HX3 HX13 HB3
    generalize w3.alloc (.cells #[.int .i64 n0, .int .i64 n1, .int .i64 n2, .int .i64 n3, .int .i64 n4, .bool n5, .int .i64 n6, .int .i64 n7, .slice xA uN xC, .slice yA gN yC, .int .i64 n10, .int .i64 n11, .int .i64 n12, .int .i64 n13] 32) = V at *
    obtain ⟨-, -, -, -, -, -, -, -, y8, y9, -⟩ := HV1.out.cells
    have hl1 := HV1.out.lt
    go_quiet (fail)
    have HB5 : Aside (Below V.heap.size V (V.drewN nq)) := below_drawn (Below.refl _ _) nq
    have HV15 : Aside (RetBox (V.drewN nq) g1 34 ⟨n0, n1, n2, n3, n4, n5, n6, n7, uA, uN, uC, gA, gN, gC, n10, n11, n12, n13⟩) := HV1.out.below HB5.out
    have HV75 : Aside (RetBox (V.drewN nq) g7 32 ⟨n0, n1, n2, n3, n4, n5, n6, n7, xA, uN, xC, yA, gN, yC, n10, n11, n12, n13⟩) := HV7.out.below HB5.out
    have HX5 : Aside (RetAt (V.drewN nq) ⟨n0, n1, n2, n3, n4, n5, n6, n7, xA, uN, xC, yA, gN, yC, n10, n11, n12, n13⟩ us gs) := HX4.out.below HB5.out
    have HBV : Aside (Below w.heap.size w (V.drewN nq)) := HB4.out.trans (HB5.out.mono HB4.out.size)
    clear y8 y9 hl1 HV1 HV7 HX4 HB4 HB5
    generalize V.drewN nq = v at *
    go_upto_region 5 with (fail)
    obtain ⟨e0, he0⟩ : ∃ q, ((gN : Int) == (uN : Int)) = q := ⟨_, rfl⟩
    rw [he0]
    have HE0 := Lib.hid he0
    clear he0
    obtain ⟨-, -, -, -, -, -, -, -, y8, y9, -⟩ := HV15.out.cells
    have hl1 := HV15.out.lt
    have HRV : Aside (RetAt v ⟨n0, n1, n2, n3, n4, n5, n6, n7, uA, uN, uC, gA, gN, gC, n10, n11, n12, n13⟩ us gs) := HR0.out.below HBV.out
    have HUL : Hid (us.length = uN ∧ gs.length = gN) := ⟨HRV.out.u.len, HRV.out.g.len⟩
    have hu300 : uN ≤ 300 := HQ1.out.1
    have hg300 : gN ≤ 300 := HQ1.out.2
    go_wp2
    go_loop [8, 10, 35] (fun at' _ i => ∃ (k : Nat) (z : Int), k ≤ uN ∧ i = .int .i64 k ∧ at' = .int .i64 z ∧ Aside (FirstAt (us.take k) unit z)) (fun _ _ i => uN - (intOf i).toNat)
    case atStart => exact ⟨0, -1, Nat.zero_le _, rfl, rfl, firstAt_nil unit⟩
    case round =>
      obtain ⟨k, z, hk, rfl, rfl, HZ⟩ := hrel
      by_cases hlt : k < uN
      · have hkn : (k : Int) < (uN : Int) := by omega
        have hk0 : (0 : Int) ≤ (k : Int) := by omega
        obtain ⟨bu, ou, hua, hub, huc⟩ : ∃ b o, uA = some ⟨b, o, none⟩ ∧ b < v.heap.size ∧ ∀ i (h : i < us.length), v.cell? ⟨b, o + i, none⟩ = some (.int .i64 us[i]) := by
          rcases HRV.out.u.at' with e | e
          · have := HUL.out.1; rw [e] at this; exact absurd hlt (by have h0 : 0 = uN := this; omega)
          · exact e
        have hlu : k < us.length := by rw [HUL.out.1]; exact hlt
        have ck := huc k hlu
        have HF : Hid (us[k] = unit → z = -1 → FirstAt (us.take (k + 1)) unit k) := fun e h => FirstAt.found hlu (h ▸ HZ.out) e
        have HT : Hid (us[k] ≠ unit ∨ z ≠ -1 → FirstAt (us.take (k + 1)) unit z) := fun e => FirstAt.goes hlu HZ.out e
        have hz := HZ.out.bnd
        rw [hua] at y8
        clear huc hua
        generalize us[k] = x at *
        by_cases q : x = unit
        · have hq : ((x : Int) == unit) = true := by simpa using q
          rcases hz with hz | ⟨m, hz, -⟩
          · have HE : Aside (FirstAt (us.take (k + 1)) unit k) := HF.out q hz
            subst hz
            clear q HF HT
            go_wp2
            go_round
            case rel => exact ⟨k + 1, k, by omega, by go_num, rfl, HE.out⟩
            case measure => simp [intOf]; omega
          · have HE : Aside (FirstAt (us.take (k + 1)) unit z) := HT.out (.inr (by omega))
            subst hz
            have hm0 : ¬ (m : Int) < 0 := by omega
            clear q HF HT
            go_wp2
            go_round
            case rel => exact ⟨k + 1, (m : Int), by omega, by go_num, rfl, HE.out⟩
            case measure => simp [intOf]; omega
        · have hq : ((x : Int) == unit) = false := by simpa using q
          have HE : Aside (FirstAt (us.take (k + 1)) unit z) := HT.out (.inl q)
          clear q HF HT hz
          go_wp2
          go_round
          case rel => exact ⟨k + 1, z, by omega, by go_num, rfl, HE.out⟩
          case measure => simp [intOf]; omega
      · obtain rfl : uN = k := by omega
        have HZZ : Aside (FirstAt us unit z) := by
          have := HZ.out
          rw [List.take_of_length_le (by rw [HUL.out.1]; exact Nat.le_refl _)] at this
          exact this
        clear HZ
        go_wp2
        go_loop [9, 11, 54] (fun all _ i => ∃ (j : Nat) (q : Bool), j ≤ gN ∧ i = .int .i64 j ∧ all = .bool q ∧ Hid (q = (e0 && allB (neB gs) j))) (fun _ _ i => gN - (intOf i).toNat)
        case atStart => exact ⟨0, e0, Nat.zero_le _, rfl, rfl, by show _ = _; simp [allB]⟩
        case round =>
          obtain ⟨j, q, hj, rfl, rfl, HQ⟩ := hrel
          by_cases hlt : j < gN
          · have hjn : (j : Int) < (gN : Int) := by omega
            have hj0 : (0 : Int) ≤ (j : Int) := by omega
            obtain ⟨bg, og, hga, hgb, hgc⟩ : ∃ b o, gA = some ⟨b, o, none⟩ ∧ b < v.heap.size ∧ ∀ i (h : i < gs.length), v.cell? ⟨b, o + i, none⟩ = some (.int .i64 gs[i]) := by
              rcases HRV.out.g.at' with e | e
              · have := HUL.out.2; rw [e] at this; exact absurd hlt (by have h0 : 0 = gN := this; omega)
              · exact e
            have hlg : j < gs.length := by rw [HUL.out.2]; exact hlt
            have ck := hgc j hlg
            have HT : Hid ((e0 && allB (neB gs) (j + 1)) = (q && (gs[j] != -1))) := by
              show _ = _
              rw [allB_succ, ← Bool.and_assoc, ← HQ.out]
              unfold neB
              rw [getD_at hlg]
            rw [hga] at y9
            clear hgc hga HQ
            generalize gs[j] = x at *
            cases q with
            | false =>
              go_wp2
              go_round
              case rel => exact ⟨j + 1, false, by omega, by go_num, rfl, by show _ = _; rw [HT.out]; rfl⟩
              case measure => simp [intOf]; omega
            | true =>
              go_wp2
              go_round
              case rel => exact ⟨j + 1, (x != -1), by omega, by go_num, rfl, by show _ = _; rw [HT.out]; rfl⟩
              case measure => simp [intOf]; omega
          · obtain rfl : gN = j := by omega
            have HGQ : Hid (gradedB ⟨n0, n1, n2, n3, n4, n5, n6, n7, uA, uN, uC, gA, gN, gC, n10, n11, n12, n13⟩ gs = q) := by
              show _ = _
              unfold gradedB
              rw [HQ.out, ← HE0.out]
              have := neB_all gs
              rw [HUL.out.2] at this
              rw [this]
            clear HQ y8 y9 hl1
            go_upto_region 16 with (fail)
            have hl1 := HV15.out.lt
            have hl7 := HV75.out.lt
            obtain ⟨y0, y1, y2, y3, y4, y5, y6, y7, y8, y9, y10, y11, y12, y13⟩ := HV15.out.cells
            obtain ⟨z0, z1, z2, z3, z4, z5, z6, z7, z8, z9, z10, z11, z12, z13⟩ := HV75.out.cells
            dsimp only at y0 y1 y2 y3 y4 y5 y6 y7 y8 y9 y10 y11 y12 y13 z0 z1 z2 z3 z4 z5 z6 z7 z8 z9 z10 z11 z12 z13
            have HRX : Aside (∀ X, Below v.heap.size v X → Calls Tryd.prog 15 #[.agg #[.int .i64 n0, .int .i64 n1, .int .i64 n2, .int .i64 n3, .int .i64 n4, .bool n5, .int .i64 n6, .int .i64 n7, .slice xA uN xC, .slice yA gN yC, .int .i64 n10, .int .i64 n11, .int .i64 n12, .int .i64 n13]] X fun e w' => e = .returned (.bool (rightB ⟨n0, n1, n2, n3, n4, n5, n6, n7, uA, uN, uC, gA, gN, gC, n10, n11, n12, n13⟩ us gs)) ∧ Below v.heap.size v w') := fun X hX => by
              refine (rma_right ⟨n0, n1, n2, n3, n4, n5, n6, n7, xA, uN, xC, yA, gN, yC, n10, n11, n12, n13⟩ us gs X (HX5.out.below hX) (by show uN ≤ _; omega) (by show gN ≤ _; omega)).mono ?_
              rintro e w' ⟨rfl, hb⟩
              exact ⟨rfl, hX.trans (hb.mono hX.size)⟩
            have HRL : Aside (∀ X, Below v.heap.size v X → Calls Tryd.prog 16 #[.agg #[.int .i64 n0, .int .i64 n1, .int .i64 n2, .int .i64 n3, .int .i64 n4, .bool n5, .int .i64 n6, .int .i64 n7, .slice uA uN uC, .slice gA gN gC, .int .i64 n10, .int .i64 n11, .int .i64 n12, .int .i64 n13]] X fun e w' => e = .returned (.bool (rightB ⟨n0, n1, n2, n3, n4, n5, n6, n7, uA, uN, uC, gA, gN, gC, n10, n11, n12, n13⟩ us gs)) ∧ Below v.heap.size v w') := fun X hX => by
              refine (law_right ⟨n0, n1, n2, n3, n4, n5, n6, n7, uA, uN, uC, gA, gN, gC, n10, n11, n12, n13⟩ us gs X (HRV.out.below hX) (by show uN ≤ _; omega)).mono ?_
              rintro e w' ⟨rfl, hb⟩
              exact ⟨rfl, hX.trans (hb.mono hX.size)⟩
            have HGX : Aside (∀ X, Below v.heap.size v X → Calls Tryd.prog 17 #[.agg #[.int .i64 n0, .int .i64 n1, .int .i64 n2, .int .i64 n3, .int .i64 n4, .bool n5, .int .i64 n6, .int .i64 n7, .slice xA uN xC, .slice yA gN yC, .int .i64 n10, .int .i64 n11, .int .i64 n12, .int .i64 n13]] X fun e w' => e = .returned (.bool q) ∧ Below v.heap.size v w') := fun X hX => by
              refine (rma_graded ⟨n0, n1, n2, n3, n4, n5, n6, n7, xA, uN, xC, yA, gN, yC, n10, n11, n12, n13⟩ us gs X (HX5.out.below hX) (by show gN ≤ _; omega)).mono ?_
              rintro e w' ⟨rfl, hb⟩
              exact ⟨by rw [← HGQ.out]; rfl, hX.trans (hb.mono hX.size)⟩
            have HHX : Aside (∀ X, Below v.heap.size v X → Calls Tryd.prog 18 #[.agg #[.int .i64 n0, .int .i64 n1, .int .i64 n2, .int .i64 n3, .int .i64 n4, .bool n5, .int .i64 n6, .int .i64 n7, .slice xA uN xC, .slice yA gN yC, .int .i64 n10, .int .i64 n11, .int .i64 n12, .int .i64 n13], .int .i64 unit] X fun e w' => e = .returned (.int .i64 z) ∧ Below v.heap.size v w') := fun X hX => by
              refine (rma_has ⟨n0, n1, n2, n3, n4, n5, n6, n7, xA, uN, xC, yA, gN, yC, n10, n11, n12, n13⟩ us gs unit X (HX5.out.below hX) (by show uN ≤ _; omega)).mono ?_
              rintro e w' ⟨⟨i, rfl, hi⟩, hb⟩
              exact ⟨by rw [hi.uniq HZZ.out], hX.trans (hb.mono hX.size)⟩
            have HDX : Aside (∀ X, Below v.heap.size v X → Calls Tryd.prog 12 #[.agg #[.int .i64 n0, .int .i64 n1, .int .i64 n2, .int .i64 n3, .int .i64 n4, .bool n5, .int .i64 n6, .int .i64 n7, .slice xA uN xC, .slice yA gN yC, .int .i64 n10, .int .i64 n11, .int .i64 n12, .int .i64 n13]] X fun e w' => e = .returned (.bool (fromB 6 n6 9)) ∧ Below v.heap.size v w') := fun X hX => by
              refine (rma_done ⟨n0, n1, n2, n3, n4, n5, n6, n7, xA, uN, xC, yA, gN, yC, n10, n11, n12, n13⟩ X).mono ?_
              rintro e w' ⟨rfl, hb⟩
              exact ⟨rfl, hX.trans (hb.mono hX.size)⟩
            obtain ⟨qr, hqr⟩ : ∃ q, rightB ⟨n0, n1, n2, n3, n4, n5, n6, n7, uA, uN, uC, gA, gN, gC, n10, n11, n12, n13⟩ us gs = q := ⟨_, rfl⟩
            rw [hqr] at HRX HRL
            have HQQ := Lib.hid hqr
            have hq1 : (qr != qr) = false := by simp
            have hq2 : (q != q) = false := by simp
            have hq3 : (z != z) = false := by simp
            have b0 := Below.refl v.heap.size v
            have HV15' : Aside (RetBox v g1 34 ⟨n0, n1, n2, n3, n4, n5, n6, n7, uA, uN, uC, gA, gN, gC, n10, n11, n12, n13⟩) := HV15.out
            have HV75' : Aside (RetBox v g7 32 ⟨n0, n1, n2, n3, n4, n5, n6, n7, xA, uN, xC, yA, gN, yC, n10, n11, n12, n13⟩) := HV75.out
            have HX5' : Aside (RetAt v ⟨n0, n1, n2, n3, n4, n5, n6, n7, xA, uN, xC, yA, gN, yC, n10, n11, n12, n13⟩ us gs) := HX5.out
            have HR0' : Aside (RetAt w ⟨n0, n1, n2, n3, n4, n5, n6, n7, uA, uN, uC, gA, gN, gC, n10, n11, n12, n13⟩ us gs) := HR0.out
            clear hqr HV15 HV75 HX5 HRV HGQ HR0
            go_cut [97] (fun s wx => s = .bool false ∧ Below v.heap.size v wx)
            case first =>
              as_aux_lemma =>
                clear HBV HZZ HE0 HUL HQ1 HQQ HLO HV15' HV75' HX5' HR0'
                by_cases h6 : 6 ≤ n6
                · by_cases h9 : n6 ≤ 9
                  · rw [fromB_yes h6 h9] at HDX
                    have d6 : decide (6 ≤ n6) = true := decide_eq_true h6
                    have d9 : decide (n6 ≤ 9) = true := decide_eq_true h9
                    go_region_held3 (fun w' => Below v.heap.size v w' ∧ (∀ o, w'.cell? ⟨g1, o, none⟩ = v.cell? ⟨g1, o, none⟩) ∧ (∀ o, w'.cell? ⟨g7, o, none⟩ = v.cell? ⟨g7, o, none⟩))
                      (refine ⟨?_, fun o => Below.cell (p := ⟨g1, o, none⟩) ?_ hl1, fun o => Below.cell (p := ⟨g7, o, none⟩) ?_ hl7⟩ <;> (with_reducible (repeat (first | assumption | refine Below.drew ?_))))
                      ((first
                        | (go_at_call 15; with_reducible refine Calls.mono (HRX.out _ ?_) ?_; (with_reducible (repeat (first | assumption | refine Below.drew ?_))); rintro e w21 ⟨rfl, b21⟩)
                        | (go_at_call 16; with_reducible refine Calls.mono (HRL.out _ ?_) ?_; (with_reducible (repeat (first | assumption | refine Below.drew ?_))); rintro e w22 ⟨rfl, b22⟩)
                        | (go_at_call 17; with_reducible refine Calls.mono (HGX.out _ ?_) ?_; (with_reducible (repeat (first | assumption | refine Below.drew ?_))); rintro e w23 ⟨rfl, b23⟩)
                        | (go_at_call 18; with_reducible refine Calls.mono (HHX.out _ ?_) ?_; (with_reducible (repeat (first | assumption | refine Below.drew ?_))); rintro e w24 ⟨rfl, b24⟩)
                        | (go_at_call 12; with_reducible refine Calls.mono (HDX.out _ ?_) ?_; (with_reducible (repeat (first | assumption | refine Below.drew ?_))); rintro e w25 ⟨rfl, b25⟩)))
                    all_goals
                      go_wp2_with fail
                      go_meet
                      exact ⟨rfl, b25⟩
                  · rw [fromB_no2 h9] at HDX
                    have d6 : decide (6 ≤ n6) = true := decide_eq_true h6
                    have d9 : decide (n6 ≤ 9) = false := decide_eq_false h9
                    clear h9
                    go_region_held3 (fun w' => Below v.heap.size v w' ∧ (∀ o, w'.cell? ⟨g1, o, none⟩ = v.cell? ⟨g1, o, none⟩) ∧ (∀ o, w'.cell? ⟨g7, o, none⟩ = v.cell? ⟨g7, o, none⟩))
                      (refine ⟨?_, fun o => Below.cell (p := ⟨g1, o, none⟩) ?_ hl1, fun o => Below.cell (p := ⟨g7, o, none⟩) ?_ hl7⟩ <;> (with_reducible (repeat (first | assumption | refine Below.drew ?_))))
                      ((first
                        | (go_at_call 15; with_reducible refine Calls.mono (HRX.out _ ?_) ?_; (with_reducible (repeat (first | assumption | refine Below.drew ?_))); rintro e w21 ⟨rfl, b21⟩)
                        | (go_at_call 16; with_reducible refine Calls.mono (HRL.out _ ?_) ?_; (with_reducible (repeat (first | assumption | refine Below.drew ?_))); rintro e w22 ⟨rfl, b22⟩)
                        | (go_at_call 17; with_reducible refine Calls.mono (HGX.out _ ?_) ?_; (with_reducible (repeat (first | assumption | refine Below.drew ?_))); rintro e w23 ⟨rfl, b23⟩)
                        | (go_at_call 18; with_reducible refine Calls.mono (HHX.out _ ?_) ?_; (with_reducible (repeat (first | assumption | refine Below.drew ?_))); rintro e w24 ⟨rfl, b24⟩)
                        | (go_at_call 12; with_reducible refine Calls.mono (HDX.out _ ?_) ?_; (with_reducible (repeat (first | assumption | refine Below.drew ?_))); rintro e w25 ⟨rfl, b25⟩)))
                    all_goals
                      go_wp2_with fail
                      go_meet
                      exact ⟨rfl, b25⟩
                · rw [fromB_no1 h6] at HDX
                  have d6 : decide (6 ≤ n6) = false := decide_eq_false h6
                  clear h6
                  go_wp2_with fail
                  refine wp_region_noPanic ?_
                  refine wp_region_held_drew (S := fun w' => Below v.heap.size v w' ∧ (∀ o, w'.cell? ⟨g1, o, none⟩ = v.cell? ⟨g1, o, none⟩) ∧ (∀ o, w'.cell? ⟨g7, o, none⟩ = v.cell? ⟨g7, o, none⟩)) (by kernel_rfl) ⟨(Below.refl _ _).drew, fun o => Below.cell (p := ⟨g1, o, none⟩) (Below.refl _ _).drew hl1, fun o => Below.cell (p := ⟨g7, o, none⟩) (Below.refl _ _).drew hl7⟩ (fun hHeld => ?_)
                  refine wpAnyH_take (i := 0) (oi := _) (v := ?_) rfl (by kernel_rfl) (by kernel_rfl) (by kernel_rfl) (fun _ _ _ h => h) (Or.inl ⟨by rfl, ?_⟩) (by assumption) ?_
                  rotate_left
                  · intro w hSw
                    obtain ⟨-, hS1, hS7⟩ := hSw
                    go_simp
                    try with_reducible rfl
                  simp only [Act.put, List.setIfInBounds_toArray, List.set_cons_zero, List.set_cons_succ, List.getElem_toArray, List.getElem_cons_zero]
                  refine wpAnyH_take (i := 2) (oi := _) (v := ?_) rfl (by kernel_rfl) (by kernel_rfl) (by kernel_rfl) (fun _ _ _ h => h) (Or.inl ⟨by rfl, ?_⟩) (by assumption) ?_
                  rotate_left
                  · intro w hSw
                    obtain ⟨-, hS1, hS7⟩ := hSw
                    go_simp
                    try with_reducible rfl
                  simp only [Act.put, List.setIfInBounds_toArray, List.set_cons_zero, List.set_cons_succ, List.getElem_toArray, List.getElem_cons_zero, List.getElem_cons_succ]
                  refine wpAnyH_ready (rs := [1]) (by kernel_rfl) (by simp) ?_
                  refine AllReadyH.cons (i := 1) (o := _) rfl (fun K hK => ?_) AllReadyH.nil
                  go_simp
                  with_reducible refine Calls.mono (HRX.out _ ?_) ?_
                  · first | exact (Below.refl _ _).drew | assumption | exact Below.drew (by assumption)
                  rintro e w21 ⟨rfl, b21⟩
                  go_wp2_with fail
                  refine hK.out _ _ ?_ (fun hHeld => ?_)
                  · exact ⟨b21, fun o => Below.cell (p := ⟨g1, o, none⟩) b21 hl1, fun o => Below.cell (p := ⟨g7, o, none⟩) b21 hl7⟩
                  clear hK K
                  refine wpAnyH_ready (rs := [3]) (by kernel_rfl) (by simp) ?_
                  refine AllReadyH.cons (i := 3) (o := _) rfl (fun K hK => ?_) AllReadyH.nil
                  go_simp
                  with_reducible refine Calls.mono (HRL.out _ ?_) ?_
                  · first | exact (Below.refl _ _).drew | assumption | exact Below.drew (by assumption)
                  rintro e w22 ⟨rfl, b22⟩
                  go_wp2_with fail
                  refine hK.out _ _ ?_ (fun hHeld => ?_)
                  · exact ⟨b22, fun o => Below.cell (p := ⟨g1, o, none⟩) b22 hl1, fun o => Below.cell (p := ⟨g7, o, none⟩) b22 hl7⟩
                  clear hK K
                  refine wpAnyH_take (i := 4) (oi := _) (v := ?_) rfl (by kernel_rfl) (by kernel_rfl) (by kernel_rfl) (fun _ _ _ h => h) (Or.inl ⟨by rfl, ?_⟩) (by assumption) ?_
                  rotate_left
                  · intro w hSw
                    go_simp
                    try with_reducible rfl
                  simp only [Act.put, List.setIfInBounds_toArray, List.set_cons_zero, List.set_cons_succ, List.getElem_toArray, List.getElem_cons_zero, List.getElem_cons_succ]
                  refine wpAnyH_take (i := 5) (oi := _) (v := ?_) rfl (by kernel_rfl) (by kernel_rfl) (by kernel_rfl) (fun _ _ _ h => h) (Or.inl ⟨by rfl, ?_⟩) (by assumption) ?_
                  rotate_left
                  · intro w hSw
                    go_simp
                    try with_reducible rfl
                  simp only [Act.put, List.setIfInBounds_toArray, List.set_cons_zero, List.set_cons_succ, List.getElem_toArray, List.getElem_cons_zero, List.getElem_cons_succ]
                  refine wpAnyH_take (i := 6) (oi := _) (v := ?_) rfl (by kernel_rfl) (by kernel_rfl) (by kernel_rfl) (fun _ _ _ h => h) (Or.inl ⟨by rfl, ?_⟩) (by assumption) ?_
                  rotate_left
                  · intro w hSw
                    obtain ⟨-, hS1, hS7⟩ := hSw
                    go_simp
                    try with_reducible rfl
                  simp only [Act.put, List.setIfInBounds_toArray, List.set_cons_zero, List.set_cons_succ, List.getElem_toArray, List.getElem_cons_zero, List.getElem_cons_succ]
                  refine wpAnyH_take (i := 8) (oi := _) (v := ?_) rfl (by kernel_rfl) (by kernel_rfl) (by kernel_rfl) (fun _ _ _ h => h) (Or.inl ⟨by rfl, ?_⟩) (by assumption) ?_
                  rotate_left
                  · intro w hSw
                    go_simp
                    try with_reducible rfl
                  simp only [Act.put, List.setIfInBounds_toArray, List.set_cons_zero, List.set_cons_succ, List.getElem_toArray, List.getElem_cons_zero, List.getElem_cons_succ]
                  refine wpAnyH_ready (rs := [7]) (by kernel_rfl) (by simp) ?_
                  refine AllReadyH.cons (i := 7) (o := _) rfl (fun K hK => ?_) AllReadyH.nil
                  go_simp
                  with_reducible refine Calls.mono (HGX.out _ ?_) ?_
                  · first | exact (Below.refl _ _).drew | assumption | exact Below.drew (by assumption)
                  rintro e w23 ⟨rfl, b23⟩
                  go_wp2_with fail
                  refine hK.out _ _ ?_ (fun hHeld => ?_)
                  · exact ⟨b23, fun o => Below.cell (p := ⟨g1, o, none⟩) b23 hl1, fun o => Below.cell (p := ⟨g7, o, none⟩) b23 hl7⟩
                  clear hK K
                  refine wpAnyH_take (i := 9) (oi := _) (v := ?_) rfl (by kernel_rfl) (by kernel_rfl) (by kernel_rfl) (fun _ _ _ h => h) (Or.inl ⟨by rfl, ?_⟩) (by assumption) ?_
                  rotate_left
                  · intro w hSw
                    go_simp
                    try with_reducible rfl
                  simp only [Act.put, List.setIfInBounds_toArray, List.set_cons_zero, List.set_cons_succ, List.getElem_toArray, List.getElem_cons_zero, List.getElem_cons_succ]
                  refine wpAnyH_take (i := 10) (oi := _) (v := ?_) rfl (by kernel_rfl) (by kernel_rfl) (by kernel_rfl) (fun _ _ _ h => h) (Or.inl ⟨by rfl, ?_⟩) (by assumption) ?_
                  rotate_left
                  · intro w hSw
                    go_simp
                    try with_reducible rfl
                  simp only [Act.put, List.setIfInBounds_toArray, List.set_cons_zero, List.set_cons_succ, List.getElem_toArray, List.getElem_cons_zero, List.getElem_cons_succ]
                  refine wpAnyH_take (i := 11) (oi := _) (v := ?_) rfl (by kernel_rfl) (by kernel_rfl) (by kernel_rfl) (fun _ _ _ h => h) (Or.inl ⟨by rfl, ?_⟩) (by assumption) ?_
                  rotate_left
                  · intro w hSw
                    go_simp
                    try with_reducible rfl
                  simp only [Act.put, List.setIfInBounds_toArray, List.set_cons_zero, List.set_cons_succ, List.getElem_toArray, List.getElem_cons_zero, List.getElem_cons_succ]
                  refine wpAnyH_take (i := 12) (oi := _) (v := ?_) rfl (by kernel_rfl) (by kernel_rfl) (by kernel_rfl) (fun _ _ _ h => h) (Or.inl ⟨by rfl, ?_⟩) (by assumption) ?_
                  rotate_left
                  · intro w hSw
                    obtain ⟨-, hS1, hS7⟩ := hSw
                    go_simp
                    try with_reducible rfl
                  simp only [Act.put, List.setIfInBounds_toArray, List.set_cons_zero, List.set_cons_succ, List.getElem_toArray, List.getElem_cons_zero, List.getElem_cons_succ]
                  refine wpAnyH_take (i := 13) (oi := _) (v := ?_) rfl (by kernel_rfl) (by kernel_rfl) (by kernel_rfl) (fun _ _ _ h => h) (Or.inl ⟨by rfl, ?_⟩) (by assumption) ?_
                  rotate_left
                  · intro w hSw
                    go_simp
                    try with_reducible rfl
                  simp only [Act.put, List.setIfInBounds_toArray, List.set_cons_zero, List.set_cons_succ, List.getElem_toArray, List.getElem_cons_zero, List.getElem_cons_succ]
                  refine wpAnyH_take (i := 15) (oi := _) (v := ?_) rfl (by kernel_rfl) (by kernel_rfl) (by kernel_rfl) (fun _ _ _ h => h) (Or.inl ⟨by rfl, ?_⟩) (by assumption) ?_
                  rotate_left
                  · intro w hSw
                    go_simp
                    try with_reducible rfl
                  simp only [Act.put, List.setIfInBounds_toArray, List.set_cons_zero, List.set_cons_succ, List.getElem_toArray, List.getElem_cons_zero, List.getElem_cons_succ]
                  refine wpAnyH_ready (rs := [14]) (by kernel_rfl) (by simp) ?_
                  refine AllReadyH.cons (i := 14) (o := _) rfl (fun K hK => ?_) AllReadyH.nil
                  go_simp
                  with_reducible refine Calls.mono (HHX.out _ ?_) ?_
                  · first | exact (Below.refl _ _).drew | assumption | exact Below.drew (by assumption)
                  rintro e w24 ⟨rfl, b24⟩
                  go_wp2_with fail
                  refine hK.out _ _ ?_ (fun hHeld => ?_)
                  · exact ⟨b24, fun o => Below.cell (p := ⟨g1, o, none⟩) b24 hl1, fun o => Below.cell (p := ⟨g7, o, none⟩) b24 hl7⟩
                  clear hK K
                  refine wpAnyH_take (i := 16) (oi := _) (v := ?_) rfl (by kernel_rfl) (by kernel_rfl) (by kernel_rfl) (fun _ _ _ h => h) (Or.inl ⟨by rfl, ?_⟩) (by assumption) ?_
                  rotate_left
                  · intro w hSw
                    go_simp
                    try with_reducible rfl
                  simp only [Act.put, List.setIfInBounds_toArray, List.set_cons_zero, List.set_cons_succ, List.getElem_toArray, List.getElem_cons_zero, List.getElem_cons_succ]
                  refine wpAnyH_take (i := 17) (oi := _) (v := ?_) rfl (by kernel_rfl) (by kernel_rfl) (by kernel_rfl) (fun _ _ _ h => h) (Or.inl ⟨by rfl, ?_⟩) (by assumption) ?_
                  rotate_left
                  · intro w hSw
                    go_simp
                    try with_reducible rfl
                  simp only [Act.put, List.setIfInBounds_toArray, List.set_cons_zero, List.set_cons_succ, List.getElem_toArray, List.getElem_cons_zero, List.getElem_cons_succ]
                  refine wpAnyH_take (i := 18) (oi := _) (v := ?_) rfl (by kernel_rfl) (by kernel_rfl) (by kernel_rfl) (fun _ _ _ h => h) (Or.inl ⟨by rfl, ?_⟩) (by assumption) ?_
                  rotate_left
                  · intro w hSw
                    go_simp
                    try with_reducible rfl
                  simp only [Act.put, List.setIfInBounds_toArray, List.set_cons_zero, List.set_cons_succ, List.getElem_toArray, List.getElem_cons_zero, List.getElem_cons_succ]
                  refine wpAnyH_take (i := 19) (oi := _) (v := ?_) rfl (by kernel_rfl) (by kernel_rfl) (by kernel_rfl) (fun _ _ _ h => h) (Or.inl ⟨by rfl, ?_⟩) (by assumption) ?_
                  rotate_left
                  · intro w hSw
                    obtain ⟨-, hS1, hS7⟩ := hSw
                    go_simp
                    try with_reducible rfl
                  simp only [Act.put, List.setIfInBounds_toArray, List.set_cons_zero, List.set_cons_succ, List.getElem_toArray, List.getElem_cons_zero, List.getElem_cons_succ]
                  refine wpAnyH_take (i := 21) (oi := _) (v := ?_) rfl (by kernel_rfl) (by kernel_rfl) (by kernel_rfl) (fun _ _ _ h => h) (Or.inl ⟨by rfl, ?_⟩) (by assumption) ?_
                  rotate_left
                  · intro w hSw
                    go_simp
                    try with_reducible rfl
                  simp only [Act.put, List.setIfInBounds_toArray, List.set_cons_zero, List.set_cons_succ, List.getElem_toArray, List.getElem_cons_zero, List.getElem_cons_succ]
                  refine wpAnyH_take (i := 22) (oi := _) (v := ?_) rfl (by kernel_rfl) (by kernel_rfl) (by kernel_rfl) (fun _ _ _ h => h) (Or.inl ⟨by rfl, ?_⟩) (by assumption) ?_
                  rotate_left
                  · intro w hSw
                    obtain ⟨-, hS1, hS7⟩ := hSw
                    go_simp
                    try with_reducible rfl
                  simp only [Act.put, List.setIfInBounds_toArray, List.set_cons_zero, List.set_cons_succ, List.getElem_toArray, List.getElem_cons_zero, List.getElem_cons_succ]
                  refine wpAnyH_take (i := 23) (oi := _) (v := ?_) rfl (by kernel_rfl) (by kernel_rfl) (by kernel_rfl) (fun _ _ _ h => h) (Or.inl ⟨by rfl, ?_⟩) (by assumption) ?_
                  rotate_left
                  · intro w hSw
                    go_simp
                    try with_reducible rfl
                  simp only [Act.put, List.setIfInBounds_toArray, List.set_cons_zero, List.set_cons_succ, List.getElem_toArray, List.getElem_cons_zero, List.getElem_cons_succ]
                  refine wpAnyH_ready (rs := [20]) (by kernel_rfl) (by simp) ?_
                  refine AllReadyH.cons (i := 20) (o := _) rfl (fun K hK => ?_) AllReadyH.nil
                  go_simp
                  with_reducible refine Calls.mono (HDX.out _ ?_) ?_
                  · first | exact (Below.refl _ _).drew | assumption | exact Below.drew (by assumption)
                  rintro e w25 ⟨rfl, b25⟩
                  go_wp2_with fail
                  refine hK.out _ _ ?_ (fun hHeld => ?_)
                  · exact ⟨b25, fun o => Below.cell (p := ⟨g1, o, none⟩) b25 hl1, fun o => Below.cell (p := ⟨g7, o, none⟩) b25 hl7⟩
                  clear hK K
                  refine wpAnyH_take (i := 24) (oi := _) (v := ?_) rfl (by kernel_rfl) (by kernel_rfl) (by kernel_rfl) (fun _ _ _ h => h) (Or.inl ⟨by rfl, ?_⟩) (by assumption) ?_
                  rotate_left
                  · intro w hSw
                    go_simp
                    try with_reducible rfl
                  simp only [Act.put, List.setIfInBounds_toArray, List.set_cons_zero, List.set_cons_succ, List.getElem_toArray, List.getElem_cons_zero, List.getElem_cons_succ]
                  refine wpAnyH_take (i := 25) (oi := _) (v := undef) rfl (by kernel_rfl) (by kernel_rfl) (by kernel_rfl) (fun _ _ _ h => h) (Or.inr ⟨by rfl, rfl⟩) (by assumption) ?_
                  simp only [Act.put, List.setIfInBounds_toArray, List.set_cons_zero, List.set_cons_succ, List.getElem_toArray, List.getElem_cons_zero, List.getElem_cons_succ]
                  refine wpAnyH_take (i := 26) (oi := _) (v := undef) rfl (by kernel_rfl) (by kernel_rfl) (by kernel_rfl) (fun _ _ _ h => h) (Or.inr ⟨by rfl, rfl⟩) (by assumption) ?_
                  simp only [Act.put, List.setIfInBounds_toArray, List.set_cons_zero, List.set_cons_succ, List.getElem_toArray, List.getElem_cons_zero, List.getElem_cons_succ]
                  refine wpAnyH_take (i := 27) (oi := _) (v := undef) rfl (by kernel_rfl) (by kernel_rfl) (by kernel_rfl) (fun _ _ _ h => h) (Or.inr ⟨by rfl, rfl⟩) (by assumption) ?_
                  simp only [Act.put, List.setIfInBounds_toArray, List.set_cons_zero, List.set_cons_succ, List.getElem_toArray, List.getElem_cons_zero, List.getElem_cons_succ]
                  refine wpAnyH_take (i := 28) (oi := _) (v := ?_) rfl (by kernel_rfl) (by kernel_rfl) (by kernel_rfl) (fun _ _ _ h => h) (Or.inl ⟨by rfl, ?_⟩) (by assumption) ?_
                  rotate_left
                  · intro w hSw
                    go_simp
                    try with_reducible rfl
                  simp only [Act.put, List.setIfInBounds_toArray, List.set_cons_zero, List.set_cons_succ, List.getElem_toArray, List.getElem_cons_zero, List.getElem_cons_succ]
                  refine wpAnyH_take (i := 29) (oi := _) (v := ?_) rfl (by kernel_rfl) (by kernel_rfl) (by kernel_rfl) (fun _ _ _ h => h) (Or.inl ⟨by rfl, ?_⟩) (by assumption) ?_
                  rotate_left
                  · intro w hSw
                    go_simp
                    try with_reducible rfl
                  simp only [Act.put, List.setIfInBounds_toArray, List.set_cons_zero, List.set_cons_succ, List.getElem_toArray, List.getElem_cons_zero, List.getElem_cons_succ]
                  refine wpAnyH_take (i := 30) (oi := _) (v := ?_) rfl (by kernel_rfl) (by kernel_rfl) (by kernel_rfl) (fun _ _ _ h => h) (Or.inl ⟨by rfl, ?_⟩) (by assumption) ?_
                  rotate_left
                  · intro w hSw
                    go_simp
                    try with_reducible rfl
                  simp only [Act.put, List.setIfInBounds_toArray, List.set_cons_zero, List.set_cons_succ, List.getElem_toArray, List.getElem_cons_zero, List.getElem_cons_succ]
                  refine wpAnyH_done (by kernel_rfl) ?_ _
                  refine NoPanic.normal ?_
                  go_wp2_with fail
                  go_meet
                  exact ⟨rfl, b25⟩
            case rest =>
              obtain ⟨rfl, b6⟩ := hcut
              have HB6 : Aside (Below w.heap.size w wc) := HBV.out.trans (b6.mono HBV.out.size)
              have HV16 : Aside (RetBox wc g1 34 ⟨n0, n1, n2, n3, n4, n5, n6, n7, uA, uN, uC, gA, gN, gC, n10, n11, n12, n13⟩) := HV15'.out.below b6
              have HV76 : Aside (RetBox wc g7 32 ⟨n0, n1, n2, n3, n4, n5, n6, n7, xA, uN, xC, yA, gN, yC, n10, n11, n12, n13⟩) := HV75'.out.below b6
              have HX6 : Aside (RetAt wc ⟨n0, n1, n2, n3, n4, n5, n6, n7, xA, uN, xC, yA, gN, yC, n10, n11, n12, n13⟩ us gs) := HX5'.out.below b6
              have HR6 : Aside (RetAt wc ⟨n0, n1, n2, n3, n4, n5, n6, n7, uA, uN, uC, gA, gN, gC, n10, n11, n12, n13⟩ us gs) := HR0'.out.below HB6.out
              clear b6 b0 hq1 hq2 hq3 HRX HRL HGX HHX HDX y0 y1 y2 y3 y4 y5 y6 y7 y8 y9 y10 y11 y12 y13 z0 z1 z2 z3 z4 z5 z6 z7 z8 z9 z10 z11 z12 z13 hl1 hl7 HBV HV15' HV75' HX5' HE0
              obtain ⟨y0, y1, y2, y3, y4, y5, y6, y7, y8, y9, y10, y11, y12, y13⟩ := HV76.out.cells
              have hl7 := HV76.out.lt
              dsimp only at y0 y1 y2 y3 y4 y5 y6 y7 y8 y9 y10 y11 y12 y13
              cases qr with
              | false =>
                as_aux_lemma =>
                  have HGR : Aside (Calls Tryd.prog 19 #[.agg #[.int .i64 n0, .int .i64 n1, .int .i64 n2, .int .i64 n3, .int .i64 n4, .bool n5, .int .i64 n6, .int .i64 n7, .slice xA uN xC, .slice yA gN yC, .int .i64 n10, .int .i64 n11, .int .i64 n12, .int .i64 n13], .int .i64 unit, .int .i64 grade] wc fun e w' => e = .returned (.tuple #[.agg #[.int .i64 0, .int .i64 0, .int .i64 0, .int .i64 0, .int .i64 0, .bool false, .int .i64 0, .int .i64 0, .slice none 0 0, .slice none 0 0, .int .i64 0, .int .i64 0, .int .i64 0, .int .i64 0], .int .i64 1]) ∧ Below wc.heap.size wc w') := grade_wrong ⟨n0, n1, n2, n3, n4, n5, n6, n7, xA, uN, xC, yA, gN, yC, n10, n11, n12, n13⟩ us gs unit grade wc HX6.out (by show uN ≤ _; omega) (by show gN ≤ _; omega) HQQ.out
                  go_wp2_with fail
                  refine Calls.mono HGR.out ?_
                  rintro e w8 ⟨rfl, b8⟩
                  have HB8 : Aside (Below w.heap.size w w8) := HB6.out.trans (b8.mono HB6.out.size)
                  have HV18 : Aside (RetBox w8 g1 34 ⟨n0, n1, n2, n3, n4, n5, n6, n7, uA, uN, uC, gA, gN, gC, n10, n11, n12, n13⟩) := HV16.out.below b8
                  have HR8 : Aside (RetAt w8 ⟨n0, n1, n2, n3, n4, n5, n6, n7, uA, uN, uC, gA, gN, gC, n10, n11, n12, n13⟩ us gs) := HR6.out.below b8
                  clear b8 HGR HB6 HV16 HV76 HX6 HR6 
                  clear y0 y1 y2 y3 y4 y5 y6 y7 y8 y9 y10 y11 y12 y13 hl7
                  go_upto_region 19 with (refine wpList_store_new rfl 32 _ _ rfl _ _ rfl rfl (by kernel_rfl) rfl rfl ?_)
                  have HB9 : Aside (Below w.heap.size w (w8.alloc (.cells #[.int .i64 0, .int .i64 0, .int .i64 0, .int .i64 0, .int .i64 0, .bool false, .int .i64 0, .int .i64 0, .slice none 0 0, .slice none 0 0, .int .i64 0, .int .i64 0, .int .i64 0, .int .i64 0] 32))) := blw_alloc HB8.out _
                  have HV19 : Aside (RetBox (w8.alloc (.cells #[.int .i64 0, .int .i64 0, .int .i64 0, .int .i64 0, .int .i64 0, .bool false, .int .i64 0, .int .i64 0, .slice none 0 0, .slice none 0 0, .int .i64 0, .int .i64 0, .int .i64 0, .int .i64 0] 32)) g1 34 ⟨n0, n1, n2, n3, n4, n5, n6, n7, uA, uN, uC, gA, gN, gC, n10, n11, n12, n13⟩) := HV18.out.below (upd_box _)
                  have HR9 : Aside (RetAt (w8.alloc (.cells #[.int .i64 0, .int .i64 0, .int .i64 0, .int .i64 0, .int .i64 0, .bool false, .int .i64 0, .int .i64 0, .slice none 0 0, .slice none 0 0, .int .i64 0, .int .i64 0, .int .i64 0, .int .i64 0] 32)) ⟨n0, n1, n2, n3, n4, n5, n6, n7, uA, uN, uC, gA, gN, gC, n10, n11, n12, n13⟩ us gs) := HR8.out.below (upd_box _)
                  have HV12 : Aside (RetBox (w8.alloc (.cells #[.int .i64 0, .int .i64 0, .int .i64 0, .int .i64 0, .int .i64 0, .bool false, .int .i64 0, .int .i64 0, .slice none 0 0, .slice none 0 0, .int .i64 0, .int .i64 0, .int .i64 0, .int .i64 0] 32)) w8.heap.size 32 ret0) := RetBox.made w8 32 ret0
                  obtain ⟨g12, hg12⟩ : ∃ g, g = w8.heap.size := ⟨_, rfl⟩
                  rw [← hg12] at HV12 ⊢
                  clear hg12 HB8 HV18 HR8
                  generalize w8.alloc (.cells #[.int .i64 0, .int .i64 0, .int .i64 0, .int .i64 0, .int .i64 0, .bool false, .int .i64 0, .int .i64 0, .slice none 0 0, .slice none 0 0, .int .i64 0, .int .i64 0, .int .i64 0, .int .i64 0] 32) = w9 at *
                  obtain ⟨y0, y1, y2, y3, y4, y5, y6, y7, y8, y9, y10, y11, y12, y13⟩ := HV19.out.cells
                  have hl1 := HV19.out.lt
                  have HLR : Aside (Calls Tryd.prog 16 #[.agg #[.int .i64 n0, .int .i64 n1, .int .i64 n2, .int .i64 n3, .int .i64 n4, .bool n5, .int .i64 n6, .int .i64 n7, .slice uA uN uC, .slice gA gN gC, .int .i64 n10, .int .i64 n11, .int .i64 n12, .int .i64 n13]] w9 fun e w' => e = .returned (.bool false) ∧ Below w9.heap.size w9 w') := by
                    have := law_right ⟨n0, n1, n2, n3, n4, n5, n6, n7, uA, uN, uC, gA, gN, gC, n10, n11, n12, n13⟩ us gs w9 HR9.out (by show uN ≤ _; omega)
                    rw [HQQ.out] at this
                    exact this
                  go_wp2_with fail
                  refine Calls.mono HLR.out ?_
                  rintro e w10 ⟨rfl, b10⟩
                  have HB10 : Aside (Below w.heap.size w w10) := HB9.out.trans (b10.mono HB9.out.size)
                  have HV110 : Aside (RetBox w10 g1 34 ⟨n0, n1, n2, n3, n4, n5, n6, n7, uA, uN, uC, gA, gN, gC, n10, n11, n12, n13⟩) := HV19.out.below b10
                  have HV1210 : Aside (RetBox w10 g12 32 ret0) := HV12.out.below b10
                  clear b10 HLR HB9 HV19 HV12 HR9 y0 y1 y2 y3 y4 y5 y6 y7 y8 y9 y10 y11 y12 y13 hl1
                  have HEZ : Aside (∀ X, Calls Tryd.prog 20 #[.agg #[.int .i64 0, .int .i64 0, .int .i64 0, .int .i64 0, .int .i64 0, .bool false, .int .i64 0, .int .i64 0, .slice none 0 0, .slice none 0 0, .int .i64 0, .int .i64 0, .int .i64 0, .int .i64 0], .agg #[.int .i64 0, .int .i64 0, .int .i64 0, .int .i64 0, .int .i64 0, .bool false, .int .i64 0, .int .i64 0, .slice none 0 0, .slice none 0 0, .int .i64 0, .int .i64 0, .int .i64 0, .int .i64 0]] X fun e w' => e = .returned (.bool true) ∧ Below X.heap.size X w') := fun X => by
                    have := rma_equal ret0 ret0 [] [] [] [] X (retAt0 X) (retAt0 X) (Nat.zero_le _) (Nat.zero_le _) (Nat.zero_le _) (Nat.zero_le _)
                    rw [sameB_self] at this
                    exact this
                  obtain ⟨y0, y1, y2, y3, y4, y5, y6, y7, y8, y9, y10, y11, y12, y13⟩ := HV1210.out.cells
                  have hl1 := HV1210.out.lt
                  unfold ret0 at y0 y1 y2 y3 y4 y5 y6 y7 y8 y9 y10 y11 y12 y13
                  dsimp only at y0 y1 y2 y3 y4 y5 y6 y7 y8 y9 y10 y11 y12 y13
                  go_wp2_with fail
                  refine Calls.mono (HEZ.out _) ?_
                  rintro e w11 ⟨rfl, b11⟩
                  have HB11 : Aside (Below w.heap.size w w11) := HB10.out.trans (b11.mono HB10.out.size)
                  clear b11 HB10 HEZ HV1210 HV110 y0 y1 y2 y3 y4 y5 y6 y7 y8 y9 y10 y11 y12 y13 hl1
                  go_wp2
                  go_ret
                  exact ⟨rfl, HB11.out⟩
              | true =>
                by_cases hgr : fromB 0 grade 4 = false
                · as_aux_lemma =>
                    have HGR : Aside (Calls Tryd.prog 19 #[.agg #[.int .i64 n0, .int .i64 n1, .int .i64 n2, .int .i64 n3, .int .i64 n4, .bool n5, .int .i64 n6, .int .i64 n7, .slice xA uN xC, .slice yA gN yC, .int .i64 n10, .int .i64 n11, .int .i64 n12, .int .i64 n13], .int .i64 unit, .int .i64 grade] wc fun e w' => e = .returned (.tuple #[.agg #[.int .i64 0, .int .i64 0, .int .i64 0, .int .i64 0, .int .i64 0, .bool false, .int .i64 0, .int .i64 0, .slice none 0 0, .slice none 0 0, .int .i64 0, .int .i64 0, .int .i64 0, .int .i64 0], .int .i64 1]) ∧ Below wc.heap.size wc w') := grade_odd ⟨n0, n1, n2, n3, n4, n5, n6, n7, xA, uN, xC, yA, gN, yC, n10, n11, n12, n13⟩ us gs unit grade wc HX6.out (by show uN ≤ _; omega) (by show gN ≤ _; omega) HQQ.out hgr
                    go_wp2_with fail
                    refine Calls.mono HGR.out ?_
                    rintro e w8 ⟨rfl, b8⟩
                    have HB8 : Aside (Below w.heap.size w w8) := HB6.out.trans (b8.mono HB6.out.size)
                    have HV18 : Aside (RetBox w8 g1 34 ⟨n0, n1, n2, n3, n4, n5, n6, n7, uA, uN, uC, gA, gN, gC, n10, n11, n12, n13⟩) := HV16.out.below b8
                    have HR8 : Aside (RetAt w8 ⟨n0, n1, n2, n3, n4, n5, n6, n7, uA, uN, uC, gA, gN, gC, n10, n11, n12, n13⟩ us gs) := HR6.out.below b8
                    clear b8 HGR HB6 HV16 HV76 HX6 HR6 
                    clear y0 y1 y2 y3 y4 y5 y6 y7 y8 y9 y10 y11 y12 y13 hl7
                    go_upto_region 19 with (refine wpList_store_new rfl 32 _ _ rfl _ _ rfl rfl (by kernel_rfl) rfl rfl ?_)
                    have HB9 : Aside (Below w.heap.size w (w8.alloc (.cells #[.int .i64 0, .int .i64 0, .int .i64 0, .int .i64 0, .int .i64 0, .bool false, .int .i64 0, .int .i64 0, .slice none 0 0, .slice none 0 0, .int .i64 0, .int .i64 0, .int .i64 0, .int .i64 0] 32))) := blw_alloc HB8.out _
                    have HV19 : Aside (RetBox (w8.alloc (.cells #[.int .i64 0, .int .i64 0, .int .i64 0, .int .i64 0, .int .i64 0, .bool false, .int .i64 0, .int .i64 0, .slice none 0 0, .slice none 0 0, .int .i64 0, .int .i64 0, .int .i64 0, .int .i64 0] 32)) g1 34 ⟨n0, n1, n2, n3, n4, n5, n6, n7, uA, uN, uC, gA, gN, gC, n10, n11, n12, n13⟩) := HV18.out.below (upd_box _)
                    have HR9 : Aside (RetAt (w8.alloc (.cells #[.int .i64 0, .int .i64 0, .int .i64 0, .int .i64 0, .int .i64 0, .bool false, .int .i64 0, .int .i64 0, .slice none 0 0, .slice none 0 0, .int .i64 0, .int .i64 0, .int .i64 0, .int .i64 0] 32)) ⟨n0, n1, n2, n3, n4, n5, n6, n7, uA, uN, uC, gA, gN, gC, n10, n11, n12, n13⟩ us gs) := HR8.out.below (upd_box _)
                    have HV12 : Aside (RetBox (w8.alloc (.cells #[.int .i64 0, .int .i64 0, .int .i64 0, .int .i64 0, .int .i64 0, .bool false, .int .i64 0, .int .i64 0, .slice none 0 0, .slice none 0 0, .int .i64 0, .int .i64 0, .int .i64 0, .int .i64 0] 32)) w8.heap.size 32 ret0) := RetBox.made w8 32 ret0
                    obtain ⟨g12, hg12⟩ : ∃ g, g = w8.heap.size := ⟨_, rfl⟩
                    rw [← hg12] at HV12 ⊢
                    clear hg12 HB8 HV18 HR8
                    generalize w8.alloc (.cells #[.int .i64 0, .int .i64 0, .int .i64 0, .int .i64 0, .int .i64 0, .bool false, .int .i64 0, .int .i64 0, .slice none 0 0, .slice none 0 0, .int .i64 0, .int .i64 0, .int .i64 0, .int .i64 0] 32) = w9 at *
                    obtain ⟨y0, y1, y2, y3, y4, y5, y6, y7, y8, y9, y10, y11, y12, y13⟩ := HV19.out.cells
                    have hl1 := HV19.out.lt
                    have HLR : Aside (Calls Tryd.prog 16 #[.agg #[.int .i64 n0, .int .i64 n1, .int .i64 n2, .int .i64 n3, .int .i64 n4, .bool n5, .int .i64 n6, .int .i64 n7, .slice uA uN uC, .slice gA gN gC, .int .i64 n10, .int .i64 n11, .int .i64 n12, .int .i64 n13]] w9 fun e w' => e = .returned (.bool true) ∧ Below w9.heap.size w9 w') := by
                      have := law_right ⟨n0, n1, n2, n3, n4, n5, n6, n7, uA, uN, uC, gA, gN, gC, n10, n11, n12, n13⟩ us gs w9 HR9.out (by show uN ≤ _; omega)
                      rw [HQQ.out] at this
                      exact this
                    by_cases hg0 : grade < 0
                    · as_aux_lemma =>
                        clear hgr
                        go_wp2_with fail
                        refine Calls.mono HLR.out ?_
                        rintro e w10 ⟨rfl, b10⟩
                        have HB10 : Aside (Below w.heap.size w w10) := HB9.out.trans (b10.mono HB9.out.size)
                        have HV110 : Aside (RetBox w10 g1 34 ⟨n0, n1, n2, n3, n4, n5, n6, n7, uA, uN, uC, gA, gN, gC, n10, n11, n12, n13⟩) := HV19.out.below b10
                        have HV1210 : Aside (RetBox w10 g12 32 ret0) := HV12.out.below b10
                        clear b10 HLR HB9 HV19 HV12 HR9 y0 y1 y2 y3 y4 y5 y6 y7 y8 y9 y10 y11 y12 y13 hl1
                        have HEZ : Aside (∀ X, Calls Tryd.prog 20 #[.agg #[.int .i64 0, .int .i64 0, .int .i64 0, .int .i64 0, .int .i64 0, .bool false, .int .i64 0, .int .i64 0, .slice none 0 0, .slice none 0 0, .int .i64 0, .int .i64 0, .int .i64 0, .int .i64 0], .agg #[.int .i64 0, .int .i64 0, .int .i64 0, .int .i64 0, .int .i64 0, .bool false, .int .i64 0, .int .i64 0, .slice none 0 0, .slice none 0 0, .int .i64 0, .int .i64 0, .int .i64 0, .int .i64 0]] X fun e w' => e = .returned (.bool true) ∧ Below X.heap.size X w') := fun X => by
                          have := rma_equal ret0 ret0 [] [] [] [] X (retAt0 X) (retAt0 X) (Nat.zero_le _) (Nat.zero_le _) (Nat.zero_le _) (Nat.zero_le _)
                          rw [sameB_self] at this
                          exact this
                        obtain ⟨y0, y1, y2, y3, y4, y5, y6, y7, y8, y9, y10, y11, y12, y13⟩ := HV1210.out.cells
                        have hl1 := HV1210.out.lt
                        unfold ret0 at y0 y1 y2 y3 y4 y5 y6 y7 y8 y9 y10 y11 y12 y13
                        dsimp only at y0 y1 y2 y3 y4 y5 y6 y7 y8 y9 y10 y11 y12 y13
                        go_wp2_with fail
                        refine Calls.mono (HEZ.out _) ?_
                        rintro e w11 ⟨rfl, b11⟩
                        have HB11 : Aside (Below w.heap.size w w11) := HB10.out.trans (b11.mono HB10.out.size)
                        clear b11 HB10 HEZ HV1210 HV110 y0 y1 y2 y3 y4 y5 y6 y7 y8 y9 y10 y11 y12 y13 hl1
                        go_wp2
                        go_ret
                        exact ⟨rfl, HB11.out⟩
                    · have hg4 : 4 < grade := by
                        apply Classical.byContradiction
                        intro x
                        rw [fromB_yes (by omega) (by omega)] at hgr
                        cases hgr
                      as_aux_lemma =>
                        clear hgr
                        go_wp2_with fail
                        refine Calls.mono HLR.out ?_
                        rintro e w10 ⟨rfl, b10⟩
                        have HB10 : Aside (Below w.heap.size w w10) := HB9.out.trans (b10.mono HB9.out.size)
                        have HV110 : Aside (RetBox w10 g1 34 ⟨n0, n1, n2, n3, n4, n5, n6, n7, uA, uN, uC, gA, gN, gC, n10, n11, n12, n13⟩) := HV19.out.below b10
                        have HV1210 : Aside (RetBox w10 g12 32 ret0) := HV12.out.below b10
                        clear b10 HLR HB9 HV19 HV12 HR9 y0 y1 y2 y3 y4 y5 y6 y7 y8 y9 y10 y11 y12 y13 hl1
                        have HEZ : Aside (∀ X, Calls Tryd.prog 20 #[.agg #[.int .i64 0, .int .i64 0, .int .i64 0, .int .i64 0, .int .i64 0, .bool false, .int .i64 0, .int .i64 0, .slice none 0 0, .slice none 0 0, .int .i64 0, .int .i64 0, .int .i64 0, .int .i64 0], .agg #[.int .i64 0, .int .i64 0, .int .i64 0, .int .i64 0, .int .i64 0, .bool false, .int .i64 0, .int .i64 0, .slice none 0 0, .slice none 0 0, .int .i64 0, .int .i64 0, .int .i64 0, .int .i64 0]] X fun e w' => e = .returned (.bool true) ∧ Below X.heap.size X w') := fun X => by
                          have := rma_equal ret0 ret0 [] [] [] [] X (retAt0 X) (retAt0 X) (Nat.zero_le _) (Nat.zero_le _) (Nat.zero_le _) (Nat.zero_le _)
                          rw [sameB_self] at this
                          exact this
                        obtain ⟨y0, y1, y2, y3, y4, y5, y6, y7, y8, y9, y10, y11, y12, y13⟩ := HV1210.out.cells
                        have hl1 := HV1210.out.lt
                        unfold ret0 at y0 y1 y2 y3 y4 y5 y6 y7 y8 y9 y10 y11 y12 y13
                        dsimp only at y0 y1 y2 y3 y4 y5 y6 y7 y8 y9 y10 y11 y12 y13
                        go_wp2_with fail
                        refine Calls.mono (HEZ.out _) ?_
                        rintro e w11 ⟨rfl, b11⟩
                        have HB11 : Aside (Below w.heap.size w w11) := HB10.out.trans (b11.mono HB10.out.size)
                        clear b11 HB10 HEZ HV1210 HV110 y0 y1 y2 y3 y4 y5 y6 y7 y8 y9 y10 y11 y12 y13 hl1
                        go_wp2
                        go_ret
                        exact ⟨rfl, HB11.out⟩
                · have hgr1 : fromB 0 grade 4 = true := by simpa using hgr
                  obtain ⟨hg0, hg4⟩ := fromB_true.1 hgr1
                  have HGR1 := Lib.hid hgr1
                  have hn0 : ¬ grade < 0 := by omega
                  have hn4 : ¬ 4 < grade := by omega
                  clear hgr hgr1
                  rcases HZZ.out.bnd with hz | ⟨m, hz, hm⟩
                  · as_aux_lemma =>
                      subst hz
                      have HGR : Aside (Calls Tryd.prog 19 #[.agg #[.int .i64 n0, .int .i64 n1, .int .i64 n2, .int .i64 n3, .int .i64 n4, .bool n5, .int .i64 n6, .int .i64 n7, .slice xA uN xC, .slice yA gN yC, .int .i64 n10, .int .i64 n11, .int .i64 n12, .int .i64 n13], .int .i64 unit, .int .i64 grade] wc fun e w' => e = .returned (.tuple #[.agg #[.int .i64 0, .int .i64 0, .int .i64 0, .int .i64 0, .int .i64 0, .bool false, .int .i64 0, .int .i64 0, .slice none 0 0, .slice none 0 0, .int .i64 0, .int .i64 0, .int .i64 0, .int .i64 0], .int .i64 7]) ∧ Below wc.heap.size wc w') := grade_none ⟨n0, n1, n2, n3, n4, n5, n6, n7, xA, uN, xC, yA, gN, yC, n10, n11, n12, n13⟩ us gs unit grade wc HX6.out (by show uN ≤ _; omega) (by show gN ≤ _; omega) HQQ.out HGR1.out HZZ.out
                      go_wp2_with fail
                      refine Calls.mono HGR.out ?_
                      rintro e w8 ⟨rfl, b8⟩
                      have HB8 : Aside (Below w.heap.size w w8) := HB6.out.trans (b8.mono HB6.out.size)
                      have HV18 : Aside (RetBox w8 g1 34 ⟨n0, n1, n2, n3, n4, n5, n6, n7, uA, uN, uC, gA, gN, gC, n10, n11, n12, n13⟩) := HV16.out.below b8
                      have HR8 : Aside (RetAt w8 ⟨n0, n1, n2, n3, n4, n5, n6, n7, uA, uN, uC, gA, gN, gC, n10, n11, n12, n13⟩ us gs) := HR6.out.below b8
                      clear b8 HGR HB6 HV16 HV76 HX6 HR6 
                      clear y0 y1 y2 y3 y4 y5 y6 y7 y8 y9 y10 y11 y12 y13 hl7
                      go_upto_region 19 with (refine wpList_store_new rfl 32 _ _ rfl _ _ rfl rfl (by kernel_rfl) rfl rfl ?_)
                      have HB9 : Aside (Below w.heap.size w (w8.alloc (.cells #[.int .i64 0, .int .i64 0, .int .i64 0, .int .i64 0, .int .i64 0, .bool false, .int .i64 0, .int .i64 0, .slice none 0 0, .slice none 0 0, .int .i64 0, .int .i64 0, .int .i64 0, .int .i64 0] 32))) := blw_alloc HB8.out _
                      have HV19 : Aside (RetBox (w8.alloc (.cells #[.int .i64 0, .int .i64 0, .int .i64 0, .int .i64 0, .int .i64 0, .bool false, .int .i64 0, .int .i64 0, .slice none 0 0, .slice none 0 0, .int .i64 0, .int .i64 0, .int .i64 0, .int .i64 0] 32)) g1 34 ⟨n0, n1, n2, n3, n4, n5, n6, n7, uA, uN, uC, gA, gN, gC, n10, n11, n12, n13⟩) := HV18.out.below (upd_box _)
                      have HR9 : Aside (RetAt (w8.alloc (.cells #[.int .i64 0, .int .i64 0, .int .i64 0, .int .i64 0, .int .i64 0, .bool false, .int .i64 0, .int .i64 0, .slice none 0 0, .slice none 0 0, .int .i64 0, .int .i64 0, .int .i64 0, .int .i64 0] 32)) ⟨n0, n1, n2, n3, n4, n5, n6, n7, uA, uN, uC, gA, gN, gC, n10, n11, n12, n13⟩ us gs) := HR8.out.below (upd_box _)
                      have HV12 : Aside (RetBox (w8.alloc (.cells #[.int .i64 0, .int .i64 0, .int .i64 0, .int .i64 0, .int .i64 0, .bool false, .int .i64 0, .int .i64 0, .slice none 0 0, .slice none 0 0, .int .i64 0, .int .i64 0, .int .i64 0, .int .i64 0] 32)) w8.heap.size 32 ret0) := RetBox.made w8 32 ret0
                      obtain ⟨g12, hg12⟩ : ∃ g, g = w8.heap.size := ⟨_, rfl⟩
                      rw [← hg12] at HV12 ⊢
                      clear hg12 HB8 HV18 HR8
                      generalize w8.alloc (.cells #[.int .i64 0, .int .i64 0, .int .i64 0, .int .i64 0, .int .i64 0, .bool false, .int .i64 0, .int .i64 0, .slice none 0 0, .slice none 0 0, .int .i64 0, .int .i64 0, .int .i64 0, .int .i64 0] 32) = w9 at *
                      obtain ⟨y0, y1, y2, y3, y4, y5, y6, y7, y8, y9, y10, y11, y12, y13⟩ := HV19.out.cells
                      have hl1 := HV19.out.lt
                      have HLR : Aside (Calls Tryd.prog 16 #[.agg #[.int .i64 n0, .int .i64 n1, .int .i64 n2, .int .i64 n3, .int .i64 n4, .bool n5, .int .i64 n6, .int .i64 n7, .slice uA uN uC, .slice gA gN gC, .int .i64 n10, .int .i64 n11, .int .i64 n12, .int .i64 n13]] w9 fun e w' => e = .returned (.bool true) ∧ Below w9.heap.size w9 w') := by
                        have := law_right ⟨n0, n1, n2, n3, n4, n5, n6, n7, uA, uN, uC, gA, gN, gC, n10, n11, n12, n13⟩ us gs w9 HR9.out (by show uN ≤ _; omega)
                        rw [HQQ.out] at this
                        exact this
                      go_wp2_with fail
                      refine Calls.mono HLR.out ?_
                      rintro e w10 ⟨rfl, b10⟩
                      have HB10 : Aside (Below w.heap.size w w10) := HB9.out.trans (b10.mono HB9.out.size)
                      have HV110 : Aside (RetBox w10 g1 34 ⟨n0, n1, n2, n3, n4, n5, n6, n7, uA, uN, uC, gA, gN, gC, n10, n11, n12, n13⟩) := HV19.out.below b10
                      have HV1210 : Aside (RetBox w10 g12 32 ret0) := HV12.out.below b10
                      clear b10 HLR HB9 HV19 HV12 HR9 y0 y1 y2 y3 y4 y5 y6 y7 y8 y9 y10 y11 y12 y13 hl1
                      clear HV1210 HV110
                      go_wp2
                      go_ret
                      exact ⟨rfl, HB10.out⟩
                  · subst hz
                    have hmu : m < uN := by rw [← HUL.out.1]; exact hm
                    have hgu : gN = uN := by
                      have := HQQ.out
                      unfold rightB at this
                      simp only [Bool.and_eq_true] at this
                      have h9 := this.2.2.2.2.2.2.2.2.2.1
                      have h10 : (gN : Int) = (uN : Int) := by simpa using h9
                      omega
                    have hmg : m < gN := by omega
                    clear hgu hmu
                    have hm0 : (0 : Int) ≤ (m : Int) := by omega
                    have hmi : (m : Int) < (gN : Int) := by omega
                    have hmn : ¬ (m : Int) < 0 := by omega
                    obtain ⟨bg, og, hga, hgb, hgc⟩ : ∃ b o, gA = some ⟨b, o, none⟩ ∧ b < wc.heap.size ∧ ∀ i (h : i < gs.length), wc.cell? ⟨b, o + i, none⟩ = some (.int .i64 gs[i]) := by
                      rcases HR6.out.g.at' with e | e
                      · have := HUL.out.2; rw [e] at this; exact absurd hmg (by have h0 : 0 = gN := this; omega)
                      · exact e
                    have hlg : m < gs.length := by rw [HUL.out.2]; exact hmg
                    have ck := hgc m hlg
                    rw [← getD_at hlg] at ck
                    obtain ⟨gm, hgm⟩ : ∃ g, gs.getD m 0 = g := ⟨_, rfl⟩
                    rw [hgm] at ck
                    have HGM := Lib.hid hgm
                    have HGA := Lib.hid hga
                    clear hgc hga hgm hm
                    by_cases hne : gm = -1
                    · subst hne
                      as_aux_lemma =>
                        have hgA := HGA.out
                        clear HGA
                        subst hgA
                        have HNG : Hid (0 < gN) := by show _ < _; omega
                        have HMI : Hid (m < gN) := hmg
                        have hgms : ((-1 : Int) != -1) = false := by decide
                        have HGR : Aside (Calls Tryd.prog 19 #[.agg #[.int .i64 n0, .int .i64 n1, .int .i64 n2, .int .i64 n3, .int .i64 n4, .bool n5, .int .i64 n6, .int .i64 n7, .slice xA uN xC, .slice yA gN yC, .int .i64 n10, .int .i64 n11, .int .i64 n12, .int .i64 n13], .int .i64 unit, .int .i64 grade] wc fun e w' => (∃ a b c d, e = .returned (.tuple #[.agg #[.int .i64 n0, .int .i64 n1, .int .i64 n2, .int .i64 n3, .int .i64 n4, .bool n5, .int .i64 n6, .int .i64 n7, .slice a uN b, .slice c gN d, .int .i64 n10, .int .i64 n11, .int .i64 n12, .int .i64 n13], .int .i64 0]) ∧ RetAt w' ⟨n0, n1, n2, n3, n4, n5, n6, n7, a, uN, b, c, gN, d, n10, n11, n12, n13⟩ us (gs.set m grade)) ∧ Below wc.heap.size wc w') := by
                          refine (grade_ok ⟨n0, n1, n2, n3, n4, n5, n6, n7, xA, uN, xC, yA, gN, yC, n10, n11, n12, n13⟩ us gs unit grade wc HX6.out (by show uN ≤ _; omega) (by show gN ≤ _; omega) HQQ.out HGR1.out m hmg HGM.out HZZ.out).mono ?_
                          rintro e w' ⟨⟨a, b, c, d, rfl, h⟩, hb⟩
                          exact ⟨⟨a, b, c, d, rfl, h⟩, hb⟩
                        go_wp2_with fail
                        refine Calls.mono HGR.out ?_
                        rintro e w8 ⟨⟨zA, zC, tA, tC, rfl, hy8⟩, b8⟩
                        have HB8 : Aside (Below w.heap.size w w8) := HB6.out.trans (b8.mono HB6.out.size)
                        have HV18 : Aside (RetBox w8 g1 34 ⟨n0, n1, n2, n3, n4, n5, n6, n7, uA, uN, uC, (some ⟨bg, og, none⟩), gN, gC, n10, n11, n12, n13⟩) := HV16.out.below b8
                        have HV78 : Aside (RetBox w8 g7 32 ⟨n0, n1, n2, n3, n4, n5, n6, n7, xA, uN, xC, yA, gN, yC, n10, n11, n12, n13⟩) := HV76.out.below b8
                        have HR8 : Aside (RetAt w8 ⟨n0, n1, n2, n3, n4, n5, n6, n7, uA, uN, uC, (some ⟨bg, og, none⟩), gN, gC, n10, n11, n12, n13⟩ us gs) := HR6.out.below b8
                        have HX8 : Aside (RetAt w8 ⟨n0, n1, n2, n3, n4, n5, n6, n7, xA, uN, xC, yA, gN, yC, n10, n11, n12, n13⟩ us gs) := HX6.out.below b8
                        have HY8 : Aside (RetAt w8 ⟨n0, n1, n2, n3, n4, n5, n6, n7, zA, uN, zC, tA, gN, tC, n10, n11, n12, n13⟩ us (gs.set m grade)) := hy8
                        clear b8 hy8 HGR HB6 HV16 HV76 HX6 HR6 ck
                        clear y0 y1 y2 y3 y4 y5 y6 y7 y8 y9 y10 y11 y12 y13
                        go_upto_region 19 with (refine wpList_store_new rfl 32 _ _ rfl _ _ rfl rfl (by kernel_rfl) rfl rfl ?_)
                        have HB9 : Aside (Below w.heap.size w (w8.alloc (.cells #[.int .i64 n0, .int .i64 n1, .int .i64 n2, .int .i64 n3, .int .i64 n4, .bool n5, .int .i64 n6, .int .i64 n7, .slice zA uN zC, .slice tA gN tC, .int .i64 n10, .int .i64 n11, .int .i64 n12, .int .i64 n13] 32))) := blw_alloc HB8.out _
                        have HV19 : Aside (RetBox (w8.alloc (.cells #[.int .i64 n0, .int .i64 n1, .int .i64 n2, .int .i64 n3, .int .i64 n4, .bool n5, .int .i64 n6, .int .i64 n7, .slice zA uN zC, .slice tA gN tC, .int .i64 n10, .int .i64 n11, .int .i64 n12, .int .i64 n13] 32)) g1 34 ⟨n0, n1, n2, n3, n4, n5, n6, n7, uA, uN, uC, (some ⟨bg, og, none⟩), gN, gC, n10, n11, n12, n13⟩) := HV18.out.below (upd_box _)
                        have HV79 : Aside (RetBox (w8.alloc (.cells #[.int .i64 n0, .int .i64 n1, .int .i64 n2, .int .i64 n3, .int .i64 n4, .bool n5, .int .i64 n6, .int .i64 n7, .slice zA uN zC, .slice tA gN tC, .int .i64 n10, .int .i64 n11, .int .i64 n12, .int .i64 n13] 32)) g7 32 ⟨n0, n1, n2, n3, n4, n5, n6, n7, xA, uN, xC, yA, gN, yC, n10, n11, n12, n13⟩) := HV78.out.below (upd_box _)
                        have HR9 : Aside (RetAt (w8.alloc (.cells #[.int .i64 n0, .int .i64 n1, .int .i64 n2, .int .i64 n3, .int .i64 n4, .bool n5, .int .i64 n6, .int .i64 n7, .slice zA uN zC, .slice tA gN tC, .int .i64 n10, .int .i64 n11, .int .i64 n12, .int .i64 n13] 32)) ⟨n0, n1, n2, n3, n4, n5, n6, n7, uA, uN, uC, (some ⟨bg, og, none⟩), gN, gC, n10, n11, n12, n13⟩ us gs) := HR8.out.below (upd_box _)
                        have HX9 : Aside (RetAt (w8.alloc (.cells #[.int .i64 n0, .int .i64 n1, .int .i64 n2, .int .i64 n3, .int .i64 n4, .bool n5, .int .i64 n6, .int .i64 n7, .slice zA uN zC, .slice tA gN tC, .int .i64 n10, .int .i64 n11, .int .i64 n12, .int .i64 n13] 32)) ⟨n0, n1, n2, n3, n4, n5, n6, n7, xA, uN, xC, yA, gN, yC, n10, n11, n12, n13⟩ us gs) := HX8.out.below (upd_box _)
                        have HY9 : Aside (RetAt (w8.alloc (.cells #[.int .i64 n0, .int .i64 n1, .int .i64 n2, .int .i64 n3, .int .i64 n4, .bool n5, .int .i64 n6, .int .i64 n7, .slice zA uN zC, .slice tA gN tC, .int .i64 n10, .int .i64 n11, .int .i64 n12, .int .i64 n13] 32)) ⟨n0, n1, n2, n3, n4, n5, n6, n7, zA, uN, zC, tA, gN, tC, n10, n11, n12, n13⟩ us (gs.set m grade)) := HY8.out.below (upd_box _)
                        have HV12 : Aside (RetBox (w8.alloc (.cells #[.int .i64 n0, .int .i64 n1, .int .i64 n2, .int .i64 n3, .int .i64 n4, .bool n5, .int .i64 n6, .int .i64 n7, .slice zA uN zC, .slice tA gN tC, .int .i64 n10, .int .i64 n11, .int .i64 n12, .int .i64 n13] 32)) w8.heap.size 32 ⟨n0, n1, n2, n3, n4, n5, n6, n7, zA, uN, zC, tA, gN, tC, n10, n11, n12, n13⟩) := RetBox.made w8 32 ⟨n0, n1, n2, n3, n4, n5, n6, n7, zA, uN, zC, tA, gN, tC, n10, n11, n12, n13⟩
                        obtain ⟨g12, hg12⟩ : ∃ g, g = w8.heap.size := ⟨_, rfl⟩
                        rw [← hg12] at HV12 ⊢
                        clear hg12 HB8 HV18 HV78 HR8 HX8 HY8
                        generalize w8.alloc (.cells #[.int .i64 n0, .int .i64 n1, .int .i64 n2, .int .i64 n3, .int .i64 n4, .bool n5, .int .i64 n6, .int .i64 n7, .slice zA uN zC, .slice tA gN tC, .int .i64 n10, .int .i64 n11, .int .i64 n12, .int .i64 n13] 32) = w9 at *
                        obtain ⟨y0, y1, y2, y3, y4, y5, y6, y7, y8, y9, y10, y11, y12, y13⟩ := HV19.out.cells
                        have hl1 := HV19.out.lt
                        have HLR : Aside (Calls Tryd.prog 16 #[.agg #[.int .i64 n0, .int .i64 n1, .int .i64 n2, .int .i64 n3, .int .i64 n4, .bool n5, .int .i64 n6, .int .i64 n7, .slice uA uN uC, .slice (some ⟨bg, og, none⟩) gN gC, .int .i64 n10, .int .i64 n11, .int .i64 n12, .int .i64 n13]] w9 fun e w' => e = .returned (.bool true) ∧ Below w9.heap.size w9 w') := by
                          have := law_right ⟨n0, n1, n2, n3, n4, n5, n6, n7, uA, uN, uC, (some ⟨bg, og, none⟩), gN, gC, n10, n11, n12, n13⟩ us gs w9 HR9.out (by show uN ≤ _; omega)
                          rw [HQQ.out] at this
                          exact this
                        go_wp2_with fail
                        refine Calls.mono HLR.out ?_
                        rintro e w10 ⟨rfl, b10⟩
                        have HB10 : Aside (Below w.heap.size w w10) := HB9.out.trans (b10.mono HB9.out.size)
                        have HV110 : Aside (RetBox w10 g1 34 ⟨n0, n1, n2, n3, n4, n5, n6, n7, uA, uN, uC, (some ⟨bg, og, none⟩), gN, gC, n10, n11, n12, n13⟩) := HV19.out.below b10
                        have HV710 : Aside (RetBox w10 g7 32 ⟨n0, n1, n2, n3, n4, n5, n6, n7, xA, uN, xC, yA, gN, yC, n10, n11, n12, n13⟩) := HV79.out.below b10
                        have HV1210 : Aside (RetBox w10 g12 32 ⟨n0, n1, n2, n3, n4, n5, n6, n7, zA, uN, zC, tA, gN, tC, n10, n11, n12, n13⟩) := HV12.out.below b10
                        have HR10 : Aside (RetAt w10 ⟨n0, n1, n2, n3, n4, n5, n6, n7, uA, uN, uC, (some ⟨bg, og, none⟩), gN, gC, n10, n11, n12, n13⟩ us gs) := HR9.out.below b10
                        have HX10 : Aside (RetAt w10 ⟨n0, n1, n2, n3, n4, n5, n6, n7, xA, uN, xC, yA, gN, yC, n10, n11, n12, n13⟩ us gs) := HX9.out.below b10
                        have HY10 : Aside (RetAt w10 ⟨n0, n1, n2, n3, n4, n5, n6, n7, zA, uN, zC, tA, gN, tC, n10, n11, n12, n13⟩ us (gs.set m grade)) := HY9.out.below b10
                        clear y0 y1 y2 y3 y4 y5 y6 y7 y8 y9 y10 y11 y12 y13
                        clear b10 HLR HB9 HV19 HV79 HV12 HR9 HX9 HY9 hl1
                        obtain ⟨y0, y1, y2, y3, y4, y5, y6, y7, y8, y9, y10, y11, y12, y13⟩ := HV110.out.cells
                        have hl1 := HV110.out.lt
                        dsimp only at y0 y1 y2 y3 y4 y5 y6 y7 y8 y9 y10 y11 y12 y13
                        have ck10 : w10.cell? ⟨bg, og + m, none⟩ = some (.int .i64 (-1)) := by
                          rcases HR10.out.g.at' with e | ⟨b, o, e, _, hc⟩
                          · have := HUL.out.2; rw [e] at this; exact absurd HNG.out (by have h0 : 0 = gN := this; omega)
                          · injection e with e
                            injection e with e1 e2
                            have h9 := hc m (by rw [HUL.out.2]; exact HMI.out)
                            rw [← e1, ← e2, ← getD_at, HGM.out] at h9
                            exact h9
                        go_upto_region 26 with (refine wpList_store_new rfl 34 _ _ rfl _ _ rfl rfl (by kernel_rfl) rfl rfl ?_)
                        have HB11 : Aside (Below w.heap.size w (w10.alloc (.cells #[.int .i64 n0, .int .i64 n1, .int .i64 n2, .int .i64 n3, .int .i64 n4, .bool n5, .int .i64 n6, .int .i64 n7, .slice uA uN uC, .slice (some ⟨bg, og, none⟩) gN gC, .int .i64 n10, .int .i64 n11, .int .i64 n12, .int .i64 n13] 34))) := blw_alloc HB10.out _
                        have HV111 : Aside (RetBox (w10.alloc (.cells #[.int .i64 n0, .int .i64 n1, .int .i64 n2, .int .i64 n3, .int .i64 n4, .bool n5, .int .i64 n6, .int .i64 n7, .slice uA uN uC, .slice (some ⟨bg, og, none⟩) gN gC, .int .i64 n10, .int .i64 n11, .int .i64 n12, .int .i64 n13] 34)) g1 34 ⟨n0, n1, n2, n3, n4, n5, n6, n7, uA, uN, uC, (some ⟨bg, og, none⟩), gN, gC, n10, n11, n12, n13⟩) := HV110.out.below (upd_box _)
                        have HV711 : Aside (RetBox (w10.alloc (.cells #[.int .i64 n0, .int .i64 n1, .int .i64 n2, .int .i64 n3, .int .i64 n4, .bool n5, .int .i64 n6, .int .i64 n7, .slice uA uN uC, .slice (some ⟨bg, og, none⟩) gN gC, .int .i64 n10, .int .i64 n11, .int .i64 n12, .int .i64 n13] 34)) g7 32 ⟨n0, n1, n2, n3, n4, n5, n6, n7, xA, uN, xC, yA, gN, yC, n10, n11, n12, n13⟩) := HV710.out.below (upd_box _)
                        have HV1211 : Aside (RetBox (w10.alloc (.cells #[.int .i64 n0, .int .i64 n1, .int .i64 n2, .int .i64 n3, .int .i64 n4, .bool n5, .int .i64 n6, .int .i64 n7, .slice uA uN uC, .slice (some ⟨bg, og, none⟩) gN gC, .int .i64 n10, .int .i64 n11, .int .i64 n12, .int .i64 n13] 34)) g12 32 ⟨n0, n1, n2, n3, n4, n5, n6, n7, zA, uN, zC, tA, gN, tC, n10, n11, n12, n13⟩) := HV1210.out.below (upd_box _)
                        have HR11 : Aside (RetAt (w10.alloc (.cells #[.int .i64 n0, .int .i64 n1, .int .i64 n2, .int .i64 n3, .int .i64 n4, .bool n5, .int .i64 n6, .int .i64 n7, .slice uA uN uC, .slice (some ⟨bg, og, none⟩) gN gC, .int .i64 n10, .int .i64 n11, .int .i64 n12, .int .i64 n13] 34)) ⟨n0, n1, n2, n3, n4, n5, n6, n7, uA, uN, uC, (some ⟨bg, og, none⟩), gN, gC, n10, n11, n12, n13⟩ us gs) := HR10.out.below (upd_box _)
                        have HW11 : Aside (Below w10.heap.size w10 (w10.alloc (.cells #[.int .i64 n0, .int .i64 n1, .int .i64 n2, .int .i64 n3, .int .i64 n4, .bool n5, .int .i64 n6, .int .i64 n7, .slice uA uN uC, .slice (some ⟨bg, og, none⟩) gN gC, .int .i64 n10, .int .i64 n11, .int .i64 n12, .int .i64 n13] 34))) := upd_box _
                        have HV14 : Aside (RetBox (w10.alloc (.cells #[.int .i64 n0, .int .i64 n1, .int .i64 n2, .int .i64 n3, .int .i64 n4, .bool n5, .int .i64 n6, .int .i64 n7, .slice uA uN uC, .slice (some ⟨bg, og, none⟩) gN gC, .int .i64 n10, .int .i64 n11, .int .i64 n12, .int .i64 n13] 34)) w10.heap.size 34 ⟨n0, n1, n2, n3, n4, n5, n6, n7, uA, uN, uC, (some ⟨bg, og, none⟩), gN, gC, n10, n11, n12, n13⟩) := RetBox.made w10 34 ⟨n0, n1, n2, n3, n4, n5, n6, n7, uA, uN, uC, (some ⟨bg, og, none⟩), gN, gC, n10, n11, n12, n13⟩
                        obtain ⟨g14, hg14⟩ : ∃ g, g = w10.heap.size := ⟨_, rfl⟩
                        rw [← hg14] at HV14 ⊢
                        have HG1L : Hid (g1 < (w10.alloc (.cells #[.int .i64 n0, .int .i64 n1, .int .i64 n2, .int .i64 n3, .int .i64 n4, .bool n5, .int .i64 n6, .int .i64 n7, .slice uA uN uC, .slice (some ⟨bg, og, none⟩) gN gC, .int .i64 n10, .int .i64 n11, .int .i64 n12, .int .i64 n13] 34)).heap.size ∧ g7 < (w10.alloc (.cells #[.int .i64 n0, .int .i64 n1, .int .i64 n2, .int .i64 n3, .int .i64 n4, .bool n5, .int .i64 n6, .int .i64 n7, .slice uA uN uC, .slice (some ⟨bg, og, none⟩) gN gC, .int .i64 n10, .int .i64 n11, .int .i64 n12, .int .i64 n13] 34)).heap.size ∧ g12 < (w10.alloc (.cells #[.int .i64 n0, .int .i64 n1, .int .i64 n2, .int .i64 n3, .int .i64 n4, .bool n5, .int .i64 n6, .int .i64 n7, .slice uA uN uC, .slice (some ⟨bg, og, none⟩) gN gC, .int .i64 n10, .int .i64 n11, .int .i64 n12, .int .i64 n13] 34)).heap.size) := ⟨HV111.out.lt, HV711.out.lt, HV1211.out.lt⟩
                        have HNE : Hid (g1 ≠ g14 ∧ g7 ≠ g14 ∧ g12 ≠ g14 ∧ w.heap.size ≤ g14) := ⟨by have := HV110.out.lt; omega, by have := HV710.out.lt; omega, by have := HV1210.out.lt; omega, by have := HB10.out.size; omega⟩
                        have HG14 : Hid (w10.heap.size = g14) := hg14.symm
                        clear y0 y1 y2 y3 y4 y5 y6 y7 y8 y9 y10 y11 y12 y13 hl1 ck10 hg14 HB10 HV110 HV710 HV1210
                        generalize w10.alloc (.cells #[.int .i64 n0, .int .i64 n1, .int .i64 n2, .int .i64 n3, .int .i64 n4, .bool n5, .int .i64 n6, .int .i64 n7, .slice uA uN uC, .slice (some ⟨bg, og, none⟩) gN gC, .int .i64 n10, .int .i64 n11, .int .i64 n12, .int .i64 n13] 34) = w11 at *
                        obtain ⟨-, -, -, -, -, -, -, -, -, y9, -⟩ := HV111.out.cells
                        dsimp only at y9
                        have hl1 := HV111.out.lt
                        have hl14 := HV14.out.lt
                        have HGL : Hid (gs.length = gN) := HUL.out.2
                        have HGI : Aside (IsInts w11 (some ⟨bg, og, none⟩) gs) := HR11.out.g.at'
                        go_upto_region 27 with (refine wpList_append_zero (w0 := w11) rfl _ _ rfl ⟨_, _, rfl⟩ (some ⟨bg, og, none⟩) gN gC rfl gs HGL.out HGI.out (fun x => by cases x) (by omega) (upd_box _) ?_; intro wA wC w12 hN hBN hBL; have X14 := HV14.out.below hBN; obtain ⟨-, -, -, -, -, -, -, -, -, z9, -⟩ := X14.cells; have zf := X14.fz)
                        obtain ⟨gw, cur, rfl, hgw, hcur, hall⟩ := hN.own HNG.out
                        have X1 := HV111.out.below hBN
                        have X7 := HV711.out.below hBN
                        have X12 := HV1211.out.below hBN
                        have hu : Upd (fun k => k = g14) w12 (w12.setCell ⟨g14, 9, none⟩ (.slice (some ⟨gw, 0, none⟩) gN wC)) := upd_set _ _
                        have hgl : gw < w12.heap.size := (Array.getElem?_eq_some_iff.1 hcur).1
                        have hg1411 := HV14.out.lt
                        have HV113 : Aside (RetBox (w12.setCell ⟨g14, 9, none⟩ (.slice (some ⟨gw, 0, none⟩) gN wC)) g1 34 ⟨n0, n1, n2, n3, n4, n5, n6, n7, uA, uN, uC, (some ⟨bg, og, none⟩), gN, gC, n10, n11, n12, n13⟩) := X1.upd hu HNE.out.1
                        have HV713 : Aside (RetBox (w12.setCell ⟨g14, 9, none⟩ (.slice (some ⟨gw, 0, none⟩) gN wC)) g7 32 ⟨n0, n1, n2, n3, n4, n5, n6, n7, xA, uN, xC, yA, gN, yC, n10, n11, n12, n13⟩) := X7.upd hu HNE.out.2.1
                        have HV1213 : Aside (RetBox (w12.setCell ⟨g14, 9, none⟩ (.slice (some ⟨gw, 0, none⟩) gN wC)) g12 32 ⟨n0, n1, n2, n3, n4, n5, n6, n7, zA, uN, zC, tA, gN, tC, n10, n11, n12, n13⟩) := X12.upd hu HNE.out.2.2.1
                        have HV1413 : Aside (RetBox (w12.setCell ⟨g14, 9, none⟩ (.slice (some ⟨gw, 0, none⟩) gN wC)) g14 34 ⟨n0, n1, n2, n3, n4, n5, n6, n7, uA, uN, uC, some ⟨gw, 0, none⟩, gN, wC, n10, n11, n12, n13⟩) := by
                          have g0 := setCell_heap_at (o := 9) (u := .slice (some ⟨gw, 0, none⟩) gN wC) X14.at'
                          exact ⟨by simpa using g0⟩
                        have HCU : Hid ((w12.setCell ⟨g14, 9, none⟩ (.slice (some ⟨gw, 0, none⟩) gN wC)).heap[gw]? = some (.cells cur 3 (0, 0)) ∧ ∀ i (h : i < gs.length), cur[i]? = some (.int .i64 gs[i])) := ⟨(hu.block gw hgl (fun e => by omega)).trans hcur, hall⟩
                        have HWC : Hid (gN ≤ wC ∧ wC ≤ maxLen) := ⟨hN.cap, hN.most⟩
                        have HBL11 : Aside (Below w11.heap.size w11 w12) := hBN
                        have HGW : Hid (w11.heap.size ≤ gw ∧ g14 < w11.heap.size ∧ gw < (w12.setCell ⟨g14, 9, none⟩ (.slice (some ⟨gw, 0, none⟩) gN wC)).heap.size) := ⟨hgw, hg1411, by rw [setCell_size]; exact hgl⟩
                        have HB13 : Aside (Below w.heap.size w (w12.setCell ⟨g14, 9, none⟩ (.slice (some ⟨gw, 0, none⟩) gN wC))) := (HB11.out.trans (hBN.mono HB11.out.size)).setCell HNE.out.2.2.2 _
                        have HRAT : Aside (∀ (r : Ret) (us' gs' : List Int), RetAt w10 r us' gs' → ∀ V, Upd (fun k => k = gw) (w12.setCell ⟨g14, 9, none⟩ (.slice (some ⟨gw, 0, none⟩) gN wC)) V → RetAt V r us' gs') := fun r us' gs' h V hV => by
                          have h14 := HG14.out
                          have s0 := HW11.out.size
                          have s1 := hBN.size
                          have u1 : Upd (fun k => k = g14 ∨ k = gw) w10 V := ((Upd.below (HW11.out.trans (hBN.mono HW11.out.size)) (S := fun k => k = g14 ∨ k = gw)).trans hu (fun k _ e => .inl e)).trans hV (fun k _ e => .inr e)
                          exact ⟨h.u.upd u1 (fun b o e hb x => by rcases x with x | x <;> omega), h.g.upd u1 (fun b o e hb x => by rcases x with x | x <;> omega)⟩
                        clear y9 z9 zf hl1 hl14 X14 X1 X7 X12 hu hgl hg1411 hgw hcur hall hN hBN hBL HV111 HV711 HV1211 HV14 HR11 HGI HB11 HW11
                        generalize (w12.setCell ⟨g14, 9, none⟩ (.slice (some ⟨gw, 0, none⟩) gN wC)) = w13 at *
                        have hk9 : w13.cell? ⟨gw, m, none⟩ = some (.int .i64 (gs[m]'(by rw [HUL.out.2]; exact HMI.out))) := by rw [cell_of_row w13 gw m cur _ _ HCU.out.1]; exact HCU.out.2 m (by rw [HUL.out.2]; exact HMI.out)
                        have hkf : w13.frozen? ⟨gw, m, none⟩ = false := by have := HCU.out.1; simp [World.frozen?, this]
                        generalize gs[m]'(by rw [HUL.out.2]; exact HMI.out) = gk9 at hk9
                        obtain ⟨-, -, -, -, -, -, -, -, -, y9, -⟩ := HV1413.out.cells
                        dsimp only at y9
                        have hl14 := HV1413.out.lt
                        have hlgw := HGW.out.2.2
                        go_upto_region 28 with (fail)
                        have hu : Upd (fun k => k = gw) w13 (w13.setCell ⟨gw, m, none⟩ (.int .i64 grade)) := upd_set _ _
                        have HGWN : Hid (g1 ≠ gw ∧ g7 ≠ gw ∧ g12 ≠ gw ∧ g14 ≠ gw) := ⟨by have := HNE.out; have := HGW.out; have := HG1L.out; omega, by have := HGW.out; have := HG1L.out; omega, by have := HGW.out; have := HG1L.out; omega, by have := HGW.out; omega⟩
                        have HV114 : Aside (RetBox (w13.setCell ⟨gw, m, none⟩ (.int .i64 grade)) g1 34 ⟨n0, n1, n2, n3, n4, n5, n6, n7, uA, uN, uC, (some ⟨bg, og, none⟩), gN, gC, n10, n11, n12, n13⟩) := HV113.out.upd hu HGWN.out.1
                        have HV714 : Aside (RetBox (w13.setCell ⟨gw, m, none⟩ (.int .i64 grade)) g7 32 ⟨n0, n1, n2, n3, n4, n5, n6, n7, xA, uN, xC, yA, gN, yC, n10, n11, n12, n13⟩) := HV713.out.upd hu HGWN.out.2.1
                        have HV1214 : Aside (RetBox (w13.setCell ⟨gw, m, none⟩ (.int .i64 grade)) g12 32 ⟨n0, n1, n2, n3, n4, n5, n6, n7, zA, uN, zC, tA, gN, tC, n10, n11, n12, n13⟩) := HV1213.out.upd hu HGWN.out.2.2.1
                        have HV1414 : Aside (RetBox (w13.setCell ⟨gw, m, none⟩ (.int .i64 grade)) g14 34 ⟨n0, n1, n2, n3, n4, n5, n6, n7, uA, uN, uC, some ⟨gw, 0, none⟩, gN, wC, n10, n11, n12, n13⟩) := HV1413.out.upd hu HGWN.out.2.2.2
                        have HR14 : Aside (RetAt (w13.setCell ⟨gw, m, none⟩ (.int .i64 grade)) ⟨n0, n1, n2, n3, n4, n5, n6, n7, uA, uN, uC, (some ⟨bg, og, none⟩), gN, gC, n10, n11, n12, n13⟩ us gs) := HRAT.out _ _ _ HR10.out _ hu
                        have HX14 : Aside (RetAt (w13.setCell ⟨gw, m, none⟩ (.int .i64 grade)) ⟨n0, n1, n2, n3, n4, n5, n6, n7, xA, uN, xC, yA, gN, yC, n10, n11, n12, n13⟩ us gs) := HRAT.out _ _ _ HX10.out _ hu
                        have HY14 : Aside (RetAt (w13.setCell ⟨gw, m, none⟩ (.int .i64 grade)) ⟨n0, n1, n2, n3, n4, n5, n6, n7, zA, uN, zC, tA, gN, tC, n10, n11, n12, n13⟩ us (gs.set m grade)) := HRAT.out _ _ _ HY10.out _ hu
                        have HW14 : Aside (RetAt (w13.setCell ⟨gw, m, none⟩ (.int .i64 grade)) ⟨n0, n1, n2, n3, n4, n5, n6, n7, uA, uN, uC, some ⟨gw, 0, none⟩, gN, wC, n10, n11, n12, n13⟩ us (gs.set m grade)) := ⟨HR14.out.u, by
                          have hall := HCU.out.2
                          have hc0 : ∀ i (h : i < gs.length), w13.cell? ⟨gw, i, none⟩ = some (.int .i64 gs[i]) := fun i h => by rw [cell_of_row w13 gw i cur _ _ HCU.out.1]; exact hall i h
                          refine ⟨by rw [List.length_set]; exact HUL.out.2, HWC.out.1, HWC.out.2, (fun x => by cases x), .inr ⟨gw, 0, rfl, by rw [setCell_size]; exact HGW.out.2.2, fun i hi => ?_⟩⟩
                          have hi' : i < gs.length := by simpa using hi
                          rw [Nat.zero_add, List.getElem_set]
                          by_cases e : m = i
                          · subst e
                            rw [if_pos rfl]
                            exact cell_same (hc0 m hi')
                          · rw [if_neg e, cell_other (fun x => e x.symm)]
                            exact hc0 i hi'⟩
                        have HB14 : Aside (Below w.heap.size w (w13.setCell ⟨gw, m, none⟩ (.int .i64 grade))) := HB13.out.setCell (by show w.heap.size ≤ gw; have := HGW.out; have := HNE.out; omega) _
                        clear hu y9 hl14 hlgw hk9 hkf HV113 HV713 HV1213 HV1413 HRAT HCU HB13 HR10 HX10 HY10
                        generalize w13.setCell ⟨gw, m, none⟩ (.int .i64 grade) = v14 at *
                        have hl1 := HV114.out.lt
                        have hl7 := HV714.out.lt
                        have hl12 := HV1214.out.lt
                        have hl14 := HV1414.out.lt
                        obtain ⟨y0, y1, y2, y3, y4, y5, y6, y7, y8, y9, y10, y11, y12, y13⟩ := HV114.out.cells
                        obtain ⟨z0, z1, z2, z3, z4, z5, z6, z7, z8, z9, z10, z11, z12, z13⟩ := HV714.out.cells
                        obtain ⟨x0, x1, x2, x3, x4, x5, x6, x7, x8, x9, x10, x11, x12, x13⟩ := HV1214.out.cells
                        obtain ⟨t0, t1, t2, t3, t4, t5, t6, t7, t8, t9, t10, t11, t12, t13⟩ := HV1414.out.cells
                        dsimp only at y0 y1 y2 y3 y4 y5 y6 y7 y8 y9 y10 y11 y12 y13 z0 z1 z2 z3 z4 z5 z6 z7 z8 z9 z10 z11 z12 z13 x0 x1 x2 x3 x4 x5 x6 x7 x8 x9 x10 x11 x12 x13 t0 t1 t2 t3 t4 t5 t6 t7 t8 t9 t10 t11 t12 t13
                        have HOY : Aside (∀ X, Below v14.heap.size v14 X → Calls Tryd.prog 22 #[.agg #[.int .i64 n0, .int .i64 n1, .int .i64 n2, .int .i64 n3, .int .i64 n4, .bool n5, .int .i64 n6, .int .i64 n7, .slice zA uN zC, .slice tA gN tC, .int .i64 n10, .int .i64 n11, .int .i64 n12, .int .i64 n13]] X fun e w' => e = .returned (.agg #[.int .i64 n0, .int .i64 n1, .int .i64 n2, .int .i64 n3, .int .i64 n4, .bool n5, .int .i64 n6, .int .i64 n7, .slice zA uN zC, .slice tA gN tC, .int .i64 n10, .int .i64 n11, .int .i64 n12, .int .i64 n13]) ∧ Below v14.heap.size v14 w') := fun X hX => by
                          refine (law_ours ⟨n0, n1, n2, n3, n4, n5, n6, n7, zA, uN, zC, tA, gN, tC, n10, n11, n12, n13⟩ X).mono ?_
                          rintro e w' ⟨rfl, hb⟩
                          exact ⟨rfl, hX.trans (hb.mono hX.size)⟩
                        have HOX : Aside (∀ X, Below v14.heap.size v14 X → Calls Tryd.prog 22 #[.agg #[.int .i64 n0, .int .i64 n1, .int .i64 n2, .int .i64 n3, .int .i64 n4, .bool n5, .int .i64 n6, .int .i64 n7, .slice xA uN xC, .slice yA gN yC, .int .i64 n10, .int .i64 n11, .int .i64 n12, .int .i64 n13]] X fun e w' => e = .returned (.agg #[.int .i64 n0, .int .i64 n1, .int .i64 n2, .int .i64 n3, .int .i64 n4, .bool n5, .int .i64 n6, .int .i64 n7, .slice xA uN xC, .slice yA gN yC, .int .i64 n10, .int .i64 n11, .int .i64 n12, .int .i64 n13]) ∧ Below v14.heap.size v14 w') := fun X hX => by
                          refine (law_ours ⟨n0, n1, n2, n3, n4, n5, n6, n7, xA, uN, xC, yA, gN, yC, n10, n11, n12, n13⟩ X).mono ?_
                          rintro e w' ⟨rfl, hb⟩
                          exact ⟨rfl, hX.trans (hb.mono hX.size)⟩
                        have HSY : Aside (∀ X, Below v14.heap.size v14 X → Calls Tryd.prog 21 #[.agg #[.int .i64 n0, .int .i64 n1, .int .i64 n2, .int .i64 n3, .int .i64 n4, .bool n5, .int .i64 n6, .int .i64 n7, .slice zA uN zC, .slice tA gN tC, .int .i64 n10, .int .i64 n11, .int .i64 n12, .int .i64 n13], .agg #[.int .i64 n0, .int .i64 n1, .int .i64 n2, .int .i64 n3, .int .i64 n4, .bool n5, .int .i64 n6, .int .i64 n7, .slice uA uN uC, .slice (some ⟨gw, 0, none⟩) gN wC, .int .i64 n10, .int .i64 n11, .int .i64 n12, .int .i64 n13]] X fun e w' => e = .returned (.bool true) ∧ Below v14.heap.size v14 w') := fun X hX => by
                          refine (law_same ⟨n0, n1, n2, n3, n4, n5, n6, n7, zA, uN, zC, tA, gN, tC, n10, n11, n12, n13⟩ ⟨n0, n1, n2, n3, n4, n5, n6, n7, uA, uN, uC, some ⟨gw, 0, none⟩, gN, wC, n10, n11, n12, n13⟩ us (gs.set m grade) us (gs.set m grade) X (HY14.out.below hX) (HW14.out.below hX) (by show uN ≤ _; omega) (by show gN ≤ _; omega) (by show uN ≤ _; omega) (by show gN ≤ _; omega)).mono ?_
                          rintro e w' ⟨rfl, hb⟩
                          exact ⟨by rw [show sameB ⟨n0, n1, n2, n3, n4, n5, n6, n7, zA, uN, zC, tA, gN, tC, n10, n11, n12, n13⟩ ⟨n0, n1, n2, n3, n4, n5, n6, n7, uA, uN, uC, some ⟨gw, 0, none⟩, gN, wC, n10, n11, n12, n13⟩ us us (gs.set m grade) (gs.set m grade) = sameB ⟨n0, n1, n2, n3, n4, n5, n6, n7, uA, uN, uC, (some ⟨bg, og, none⟩), gN, gC, n10, n11, n12, n13⟩ ⟨n0, n1, n2, n3, n4, n5, n6, n7, uA, uN, uC, (some ⟨bg, og, none⟩), gN, gC, n10, n11, n12, n13⟩ us us (gs.set m grade) (gs.set m grade) from rfl, sameB_self], hX.trans (hb.mono hX.size)⟩
                        have HSX : Aside (∀ X, Below v14.heap.size v14 X → Calls Tryd.prog 21 #[.agg #[.int .i64 n0, .int .i64 n1, .int .i64 n2, .int .i64 n3, .int .i64 n4, .bool n5, .int .i64 n6, .int .i64 n7, .slice xA uN xC, .slice yA gN yC, .int .i64 n10, .int .i64 n11, .int .i64 n12, .int .i64 n13], .agg #[.int .i64 n0, .int .i64 n1, .int .i64 n2, .int .i64 n3, .int .i64 n4, .bool n5, .int .i64 n6, .int .i64 n7, .slice uA uN uC, .slice (some ⟨bg, og, none⟩) gN gC, .int .i64 n10, .int .i64 n11, .int .i64 n12, .int .i64 n13]] X fun e w' => e = .returned (.bool true) ∧ Below v14.heap.size v14 w') := fun X hX => by
                          refine (law_same ⟨n0, n1, n2, n3, n4, n5, n6, n7, xA, uN, xC, yA, gN, yC, n10, n11, n12, n13⟩ ⟨n0, n1, n2, n3, n4, n5, n6, n7, uA, uN, uC, (some ⟨bg, og, none⟩), gN, gC, n10, n11, n12, n13⟩ us gs us gs X (HX14.out.below hX) (HR14.out.below hX) (by show uN ≤ _; omega) (by show gN ≤ _; omega) (by show uN ≤ _; omega) (by show gN ≤ _; omega)).mono ?_
                          rintro e w' ⟨rfl, hb⟩
                          exact ⟨by rw [show sameB ⟨n0, n1, n2, n3, n4, n5, n6, n7, xA, uN, xC, yA, gN, yC, n10, n11, n12, n13⟩ ⟨n0, n1, n2, n3, n4, n5, n6, n7, uA, uN, uC, (some ⟨bg, og, none⟩), gN, gC, n10, n11, n12, n13⟩ us us gs gs = sameB ⟨n0, n1, n2, n3, n4, n5, n6, n7, uA, uN, uC, (some ⟨bg, og, none⟩), gN, gC, n10, n11, n12, n13⟩ ⟨n0, n1, n2, n3, n4, n5, n6, n7, uA, uN, uC, (some ⟨bg, og, none⟩), gN, gC, n10, n11, n12, n13⟩ us us gs gs from rfl, sameB_self], hX.trans (hb.mono hX.size)⟩
                        have b0 := Below.refl v14.heap.size v14
                        have HBZ : Aside (Below w.heap.size w v14) := HB14.out
                        clear HV114 HV714 HV1214 HV1414 HR14 HX14 HY14 HW14 HB14
                        go_region_held3 (fun w' => Below v14.heap.size v14 w' ∧ (∀ o, w'.cell? ⟨g1, o, none⟩ = v14.cell? ⟨g1, o, none⟩) ∧ (∀ o, w'.cell? ⟨g7, o, none⟩ = v14.cell? ⟨g7, o, none⟩) ∧ (∀ o, w'.cell? ⟨g12, o, none⟩ = v14.cell? ⟨g12, o, none⟩) ∧ (∀ o, w'.cell? ⟨g14, o, none⟩ = v14.cell? ⟨g14, o, none⟩))
                          (refine ⟨?_, fun o => Below.cell (p := ⟨g1, o, none⟩) ?_ hl1, fun o => Below.cell (p := ⟨g7, o, none⟩) ?_ hl7, fun o => Below.cell (p := ⟨g12, o, none⟩) ?_ hl12, fun o => Below.cell (p := ⟨g14, o, none⟩) ?_ hl14⟩ <;> (with_reducible (repeat (first | assumption | refine Below.drew ?_))))
                          ((first
                            | (go_at_call 22; with_reducible refine Calls.mono (HOY.out _ ?_) ?_; (with_reducible (repeat (first | assumption | refine Below.drew ?_))); rintro e w31 ⟨rfl, b31⟩)
                            | (go_at_call 22; with_reducible refine Calls.mono (HOX.out _ ?_) ?_; (with_reducible (repeat (first | assumption | refine Below.drew ?_))); rintro e w32 ⟨rfl, b32⟩)
                            | (go_at_call 21; with_reducible refine Calls.mono (HSY.out _ ?_) ?_; (with_reducible (repeat (first | assumption | refine Below.drew ?_))); rintro e w33 ⟨rfl, b33⟩)
                            | (go_at_call 21; with_reducible refine Calls.mono (HSX.out _ ?_) ?_; (with_reducible (repeat (first | assumption | refine Below.drew ?_))); rintro e w34 ⟨rfl, b34⟩)))
                        all_goals
                          have HBF : Aside (Below w.heap.size w w34) := HBZ.out.trans (b34.mono HBZ.out.size)
                          clear b31 b32 b33 b34 b0
                          go_wp2
                          go_ret
                          exact ⟨rfl, HBF.out⟩
                    · as_aux_lemma =>
                        have hne1 : ((gm : Int) != -1) = true := by simpa using hne
                        have HNE := Lib.hid hne
                        clear hne
                        have HGR : Aside (Calls Tryd.prog 19 #[.agg #[.int .i64 n0, .int .i64 n1, .int .i64 n2, .int .i64 n3, .int .i64 n4, .bool n5, .int .i64 n6, .int .i64 n7, .slice xA uN xC, .slice yA gN yC, .int .i64 n10, .int .i64 n11, .int .i64 n12, .int .i64 n13], .int .i64 unit, .int .i64 grade] wc fun e w' => e = .returned (.tuple #[.agg #[.int .i64 0, .int .i64 0, .int .i64 0, .int .i64 0, .int .i64 0, .bool false, .int .i64 0, .int .i64 0, .slice none 0 0, .slice none 0 0, .int .i64 0, .int .i64 0, .int .i64 0, .int .i64 0], .int .i64 8]) ∧ Below wc.heap.size wc w') := grade_state ⟨n0, n1, n2, n3, n4, n5, n6, n7, xA, uN, xC, yA, gN, yC, n10, n11, n12, n13⟩ us gs unit grade wc HX6.out (by show uN ≤ _; omega) (by show gN ≤ _; omega) HQQ.out HGR1.out m hmg gm HGM.out HNE.out HZZ.out
                        go_wp2_with fail
                        refine Calls.mono HGR.out ?_
                        rintro e w8 ⟨rfl, b8⟩
                        have HB8 : Aside (Below w.heap.size w w8) := HB6.out.trans (b8.mono HB6.out.size)
                        have HV18 : Aside (RetBox w8 g1 34 ⟨n0, n1, n2, n3, n4, n5, n6, n7, uA, uN, uC, gA, gN, gC, n10, n11, n12, n13⟩) := HV16.out.below b8
                        have HR8 : Aside (RetAt w8 ⟨n0, n1, n2, n3, n4, n5, n6, n7, uA, uN, uC, gA, gN, gC, n10, n11, n12, n13⟩ us gs) := HR6.out.below b8
                        have HB8x : Aside (Below wc.heap.size wc w8) := b8
                        clear b8 HGR HB6 HV16 HV76 HX6 HR6 
                        clear y0 y1 y2 y3 y4 y5 y6 y7 y8 y9 y10 y11 y12 y13 hl7
                        go_upto_region 19 with (refine wpList_store_new rfl 32 _ _ rfl _ _ rfl rfl (by kernel_rfl) rfl rfl ?_)
                        have HB9 : Aside (Below w.heap.size w (w8.alloc (.cells #[.int .i64 0, .int .i64 0, .int .i64 0, .int .i64 0, .int .i64 0, .bool false, .int .i64 0, .int .i64 0, .slice none 0 0, .slice none 0 0, .int .i64 0, .int .i64 0, .int .i64 0, .int .i64 0] 32))) := blw_alloc HB8.out _
                        have HV19 : Aside (RetBox (w8.alloc (.cells #[.int .i64 0, .int .i64 0, .int .i64 0, .int .i64 0, .int .i64 0, .bool false, .int .i64 0, .int .i64 0, .slice none 0 0, .slice none 0 0, .int .i64 0, .int .i64 0, .int .i64 0, .int .i64 0] 32)) g1 34 ⟨n0, n1, n2, n3, n4, n5, n6, n7, uA, uN, uC, gA, gN, gC, n10, n11, n12, n13⟩) := HV18.out.below (upd_box _)
                        have HR9 : Aside (RetAt (w8.alloc (.cells #[.int .i64 0, .int .i64 0, .int .i64 0, .int .i64 0, .int .i64 0, .bool false, .int .i64 0, .int .i64 0, .slice none 0 0, .slice none 0 0, .int .i64 0, .int .i64 0, .int .i64 0, .int .i64 0] 32)) ⟨n0, n1, n2, n3, n4, n5, n6, n7, uA, uN, uC, gA, gN, gC, n10, n11, n12, n13⟩ us gs) := HR8.out.below (upd_box _)
                        have HV12 : Aside (RetBox (w8.alloc (.cells #[.int .i64 0, .int .i64 0, .int .i64 0, .int .i64 0, .int .i64 0, .bool false, .int .i64 0, .int .i64 0, .slice none 0 0, .slice none 0 0, .int .i64 0, .int .i64 0, .int .i64 0, .int .i64 0] 32)) w8.heap.size 32 ret0) := RetBox.made w8 32 ret0
                        obtain ⟨g12, hg12⟩ : ∃ g, g = w8.heap.size := ⟨_, rfl⟩
                        rw [← hg12] at HV12 ⊢
                        have hgb9 : bg < (w8.alloc (.cells #[.int .i64 0, .int .i64 0, .int .i64 0, .int .i64 0, .int .i64 0, .bool false, .int .i64 0, .int .i64 0, .slice none 0 0, .slice none 0 0, .int .i64 0, .int .i64 0, .int .i64 0, .int .i64 0] 32)).heap.size := Nat.lt_of_lt_of_le hgb (blw_alloc HB8x.out (.cells #[.int .i64 0, .int .i64 0, .int .i64 0, .int .i64 0, .int .i64 0, .bool false, .int .i64 0, .int .i64 0, .slice none 0 0, .slice none 0 0, .int .i64 0, .int .i64 0, .int .i64 0, .int .i64 0] 32)).size
                        clear hg12 HB8 HV18 HR8
                        have ck9 : Aside ((w8.alloc (.cells #[.int .i64 0, .int .i64 0, .int .i64 0, .int .i64 0, .int .i64 0, .bool false, .int .i64 0, .int .i64 0, .slice none 0 0, .slice none 0 0, .int .i64 0, .int .i64 0, .int .i64 0, .int .i64 0] 32)).cell? ⟨bg, og + m, none⟩ = some (.int .i64 gm)) := ((blw_alloc HB8x.out (.cells #[.int .i64 0, .int .i64 0, .int .i64 0, .int .i64 0, .int .i64 0, .bool false, .int .i64 0, .int .i64 0, .slice none 0 0, .slice none 0 0, .int .i64 0, .int .i64 0, .int .i64 0, .int .i64 0] 32)).cell (p := ⟨bg, og + m, none⟩) hgb).trans ck
                        clear HB8x ck
                        generalize w8.alloc (.cells #[.int .i64 0, .int .i64 0, .int .i64 0, .int .i64 0, .int .i64 0, .bool false, .int .i64 0, .int .i64 0, .slice none 0 0, .slice none 0 0, .int .i64 0, .int .i64 0, .int .i64 0, .int .i64 0] 32) = w9 at *
                        obtain ⟨y0, y1, y2, y3, y4, y5, y6, y7, y8, y9, y10, y11, y12, y13⟩ := HV19.out.cells
                        have hl1 := HV19.out.lt
                        have HLR : Aside (Calls Tryd.prog 16 #[.agg #[.int .i64 n0, .int .i64 n1, .int .i64 n2, .int .i64 n3, .int .i64 n4, .bool n5, .int .i64 n6, .int .i64 n7, .slice uA uN uC, .slice gA gN gC, .int .i64 n10, .int .i64 n11, .int .i64 n12, .int .i64 n13]] w9 fun e w' => e = .returned (.bool true) ∧ Below w9.heap.size w9 w') := by
                          have := law_right ⟨n0, n1, n2, n3, n4, n5, n6, n7, uA, uN, uC, gA, gN, gC, n10, n11, n12, n13⟩ us gs w9 HR9.out (by show uN ≤ _; omega)
                          rw [HQQ.out] at this
                          exact this
                        go_wp2_with fail
                        refine Calls.mono HLR.out ?_
                        rintro e w10 ⟨rfl, b10⟩
                        have HB10 : Aside (Below w.heap.size w w10) := HB9.out.trans (b10.mono HB9.out.size)
                        have HV110 : Aside (RetBox w10 g1 34 ⟨n0, n1, n2, n3, n4, n5, n6, n7, uA, uN, uC, gA, gN, gC, n10, n11, n12, n13⟩) := HV19.out.below b10
                        have HV1210 : Aside (RetBox w10 g12 32 ret0) := HV12.out.below b10
                        have ck10 : w10.cell? ⟨bg, og + m, none⟩ = some (.int .i64 gm) := (b10.cell (p := ⟨bg, og + m, none⟩) hgb9).trans ck9.out
                        clear ck9
                        clear b10 HLR HB9 HV19 HV12 HR9 y0 y1 y2 y3 y4 y5 y6 y7 y8 y9 y10 y11 y12 y13 hl1
                        obtain ⟨-, -, -, -, -, -, -, -, -, y9, -⟩ := HV110.out.cells
                        have hl1 := HV110.out.lt
                        dsimp only at y9
                        rw [HGA.out] at y9
                        clear HV1210 HV110
                        go_wp2
                        go_ret
                        exact ⟨rfl, HB10.out⟩

theorem rmaGrades_contract (W : World) (args : Array Value) (hL : laidMetH Tryd.prog stepsLaid W) (h : Each Tryd.prog W Tryd.f5.params.toList args.toList) :
    Calls Tryd.prog 5 args W fun e W' => e = .returned (.bool true) ∧ Below W.heap.size W W' := by
  rw [Tryd.params5] at h
  obtain ⟨v0, r0, e0, ⟨_, o0⟩, d0, h⟩ := h.cons
  obtain ⟨v1, r1, rfl, ⟨_, o1⟩, d1, h⟩ := h.cons
  obtain ⟨v2, r2, rfl, ⟨_, o2⟩, d2, h⟩ := h.cons
  obtain rfl := h.nil
  obtain ⟨args⟩ := args
  obtain rfl : args = [v0, v1, v2] := e0
  obtain ⟨x1, rfl, hx1⟩ := val_int o1 d1 Tryd.underlying3
  obtain ⟨x2, rfl, hx2⟩ := val_int o2 d2 Tryd.underlying3
  obtain ⟨R0, us0, gs0, rfl, hR0, hf0⟩ := val_ret o0 d0
  exact rmaGrades_law R0 us0 gs0 x1 x2 W (steps_of_laid hL) hR0 hf0 (wf_i64 hx1) (wf_i64 hx2)

theorem rmaGrades_lifted (os : Os) (started : os.Started) (H : Type) (enc : TypeId × Value → H) :
    ReturnsInHanded {} Tryd.checked os 5 .any (fun w args => (Rows.rmaGradesSpec.pre enc Tryd.prog Tryd.f5 [] false w args ∧ laidMetH Tryd.prog stepsLaid w) ∧ sizedMet enc Tryd.prog Tryd.f5 (OpenSpec.ofChange Rows.rmaGradesSpec) false w args)
      (Rows.rmaGradesSpec.post enc Tryd.prog Tryd.f5 false true false false) :=
  law_lifted_laid (C := Tryd.checked) seat_own seat_laid (by kernel_rfl) Tryd.func5 rfl (tb := 4) rfl Tryd.underlying4
    (by
      rw [Tryd.params5]; intro t ht; simp at ht
      rcases ht with rfl | rfl | rfl <;> exact ⟨by kernel_rfl, of_decide_eq_true (by kernel_rfl)⟩)
    (fun H ds hl => by
      rw [Tryd.params5] at hl
      match ds, hl with
      | [d1, d2, d3], _ => rfl)
    os started H enc
    (ChangeSpec.witness_shaped (enc := enc) (C := Tryd.checked) (os := os) (X := fun w _ => laidMetH Tryd.prog stepsLaid w) false (World.doorLaid Tryd.prog 26 os) #[.agg #[.int .i64 0, .int .i64 0, .int .i64 0, .int .i64 0, .int .i64 0, .bool false, .int .i64 0, .int .i64 0, .slice none 0 0, .slice none 0 0, .int .i64 0, .int .i64 0, .int .i64 0, .int .i64 0], .int .i64 0, .int .i64 0] 8 rfl (World.shaped_of_RefB (by kernel_rfl) (by kernel_rfl)) (by kernel_rfl) (by kernel_rfl) (by kernel_rfl) (door_met os _))
    rmaGrades_contract

theorem rmaGrades_holds : Rows.RmaGradesSaid :=
  OpenClaim.holds_of_wide 5 Tryd.f5 rfl rfl rfl rfl rfl rfl rfl ⟨rfl, rfl, rfl, rfl, rfl⟩ rfl rfl rfl rfl rfl (by kernel_rfl) Tryd.func5 (by kernel_rfl)
    (of_decide_eq_true (by kernel_rfl)) (by unfold Func.isWrapper; first | (rw [if_pos (by decide +kernel)]; kernel_rfl) | (rw [if_neg (by decide +kernel)]; exact ⟨rfl, rfl⟩))
    (fun os started H enc _ => rmaGrades_lifted os started H enc)

theorem rmaGrades_card : Rows.RmaGradesCardSaid :=
  Claim7.holds_tied_plain_at .later [] [.data] true _ false
    rmaGrades_holds (fun _ h => by cases h) (by kernel_rfl) (fun _ h => by cases h) rmaGrades_row_tie rfl ⟨rfl, rfl⟩ (by kernel_rfl) rfl
    (fun f fn hf hfn => by
      obtain rfl : f = 5 := Option.some.inj ((show Tryd.prog.funcNamed "recoup/recouplaw14.RmaGrades" = some 5 by kernel_rfl).symm.trans hf) |>.symm
      obtain rfl : fn = Tryd.f5 := (Option.some.inj (Tryd.func5.symm.trans hfn)).symm
      exact ⟨by kernel_rfl, fun j t ht => by
        rw [Tryd.params5] at ht
        have hm : t ∈ [34, 3, 3] := by simpa using Array.mem_of_getElem? ht
        have hall : ([34, 3, 3].all fun u => !Tryd.prog.wantsStandIn u) = true := by kernel_rfl
        exact (show Tryd.prog.wantsStandIn t = false by simpa using List.all_eq_true.1 hall t hm)⟩)
    (by kernel_rfl)
#print axioms rmaGrades_card
end Go.Proofs.YtkjkamcjbhhefaaDoor
