/-
  The law's Right: it tells the same as package rma's. Conditions: those of each theorem.
-/
import Derived.Test.YtkjkamcjbhhefaaDoorRmRight
import Derived.IntWalk
namespace Go.Proofs.YtkjkamcjbhhefaaDoor
open Go.RowKit
set_option maxRecDepth 100000

/-- What the law asks of one unit and its grade. -/
def okL (us gs : List Int) (k : Nat) : Bool := fromB 0 (us.getD k 0) 199 && ((decide (k = 0) || decide (us.getD (k - 1) 0 < us.getD k 0)) && fromB (-1) (gs.getD k 0) 4)
theorem okL_all (us gs : List Int) (n : Nat) : allB (okL us gs) n = (allB (unitOk us) n && allB (inB (-1) 4 gs) n) := by
  rw [Bool.eq_iff_iff, Bool.and_eq_true, allB_true, allB_true, allB_true]
  constructor
  · intro h
    refine ⟨fun k hk => ?_, fun k hk => ?_⟩
    · have := h k hk
      unfold okL at this
      simp only [Bool.and_eq_true, Bool.or_eq_true, decide_eq_true_eq, fromB_true] at this
      unfold unitOk prevU
      simp only [Bool.and_eq_true, decide_eq_true_eq]
      split
      · omega
      · rcases this.2.1 with e | e
        · contradiction
        · exact ⟨e, by omega⟩
    · have := h k hk
      unfold okL at this
      simp only [Bool.and_eq_true] at this
      exact this.2.2
  · rintro ⟨h1, h2⟩ k hk
    have hpos : ∀ j, j < n → 0 ≤ us.getD j 0 := by
      intro j
      induction j with
      | zero =>
        intro hj
        have := h1 0 hj
        unfold unitOk prevU at this
        simp only [Bool.and_eq_true, decide_eq_true_eq, if_true] at this
        omega
      | succ j ih =>
        intro hj
        have := h1 (j + 1) hj
        have hp := ih (by omega)
        unfold unitOk at this
        rw [prevU_succ] at this
        simp only [Bool.and_eq_true, decide_eq_true_eq] at this
        omega
    have a1 := h1 k hk
    have a2 := h2 k hk
    have a3 := hpos k hk
    unfold unitOk prevU at a1
    simp only [Bool.and_eq_true, decide_eq_true_eq] at a1
    unfold okL
    simp only [Bool.and_eq_true, Bool.or_eq_true, decide_eq_true_eq, fromB_true]
    refine ⟨⟨a3, by omega⟩, ?_, fromB_true.1 a2⟩
    by_cases e : k = 0
    · exact .inl e
    · right
      rw [if_neg e] at a1
      exact a1.1
theorem four_in (lo' hi' a b c d : Int) : allB (inB lo' hi' [a, b, c, d]) 4 = (fromB lo' a hi' && (fromB lo' b hi' && (fromB lo' c hi' && fromB lo' d hi'))) := by
  simp [allB, inB, List.range, List.range.loop, List.getD]
/-- As the law has it. -/
theorem right_law (r : Ret) (us gs : List Int) : rightB r us gs = (fromB 1 (r.uN : Int) 200 && (((r.gN : Int) == (r.uN : Int)) && (allB (okL us gs) r.uN && (fromB 1 r.num 100 && (fromB 0 r.ord 19 && (fromB 0 r.rea 3 && (fromB 0 r.want 1000 && (fromB (-1) r.res 199 && (fromB 1 r.st 9 && (fromB 0 r.day 100000 && (fromB 0 r.wor 1125899906842624 && (fromB 0 r.pai 1125899906842624 && (fromB 0 r.cre 1125899906842624 && (fromB 0 r.giv 1125899906842624)))))))))))))) := by
  unfold rightB
  rw [okL_all, four_in]
  by_cases h : r.gN = r.uN
  · rw [h]
    have e : (((r.uN : Nat) : Int) == (r.uN : Int)) = true := by simp
    rw [e]
    generalize allB (unitOk us) r.uN = a
    generalize allB (inB (-1) 4 gs) r.uN = b
    generalize fromB 1 (r.uN : Int) 200 = c
    cases a <;> cases b <;> cases c <;> simp
  · have e : (((r.gN : Nat) : Int) == (r.uN : Int)) = false := by rw [beq_eq_false_iff_ne]; omega
    rw [e]
    simp
theorem law_between' (v a b : Int) (w : World) : Calls Tryd.prog 35 #[.int .i64 v, .int .i64 a, .int .i64 b] w fun e w' => e = .returned (.bool (fromB a v b)) ∧ w' = w :=
  (law_between v a b w).mono fun _ _ ⟨h1, h2⟩ => ⟨h1, h2.symm⟩

set_option maxHeartbeats 16000000 in
theorem law_right (r : Ret) (us gs : List Int) (w : World) (h : RetAt w r us gs) (hu : r.uN ≤ 100000) :
    Calls Tryd.prog 16 #[.agg #[.int .i64 r.num, .int .i64 r.ord, .int .i64 r.rea, .int .i64 r.want, .int .i64 r.res, .bool r.cred, .int .i64 r.st, .int .i64 r.day, .slice r.uA r.uN r.uC, .slice r.gA r.gN r.gC, .int .i64 r.wor, .int .i64 r.pai, .int .i64 r.cre, .int .i64 r.giv]] w fun e w' => e = .returned (.bool (rightB r us gs)) ∧ Below w.heap.size w w' := by
  rw [right_law]
  obtain ⟨n0, n1, n2, n3, n4, n5, n6, n7, uA, uN, uC, gA, gN, gC, n10, n11, n12, n13⟩ := r
  dsimp only at *
  obtain ⟨W, hW, hs2, hb2, X1⟩ := one_box w 34 ⟨n0, n1, n2, n3, n4, n5, n6, n7, uA, uN, uC, gA, gN, gC, n10, n11, n12, n13⟩
  dsimp only at hW
  have H : Aside _ := h.below hb2
  have HB : Aside (Below w.heap.size w W) := hb2
  have HX : Aside _ := X1
  clear X1 hb2 hs2 h
  have HC1 : Aside (∀ w, Calls Tryd.prog 35 #[.int .i64 (uN : Int), .int .i64 1, .int .i64 200] w fun e w' => e = .returned (.bool (fromB 1 (uN : Int) 200)) ∧ w = w') := law_between _ _ _
  have HT0 : Aside (∀ w, Calls Tryd.prog 35 #[.int .i64 n0, .int .i64 1, .int .i64 100] w fun e w' => e = .returned (.bool (fromB 1 n0 100)) ∧ w = w') := law_between _ _ _
  have HT1 : Aside (∀ w, Calls Tryd.prog 35 #[.int .i64 n1, .int .i64 0, .int .i64 19] w fun e w' => e = .returned (.bool (fromB 0 n1 19)) ∧ w = w') := law_between _ _ _
  have HT2 : Aside (∀ w, Calls Tryd.prog 35 #[.int .i64 n2, .int .i64 0, .int .i64 3] w fun e w' => e = .returned (.bool (fromB 0 n2 3)) ∧ w = w') := law_between _ _ _
  have HT3 : Aside (∀ w, Calls Tryd.prog 35 #[.int .i64 n3, .int .i64 0, .int .i64 1000] w fun e w' => e = .returned (.bool (fromB 0 n3 1000)) ∧ w = w') := law_between _ _ _
  have HT4 : Aside (∀ w, Calls Tryd.prog 35 #[.int .i64 n4, .int .i64 (-1), .int .i64 199] w fun e w' => e = .returned (.bool (fromB (-1) n4 199)) ∧ w = w') := law_between _ _ _
  have HT5 : Aside (∀ w, Calls Tryd.prog 35 #[.int .i64 n6, .int .i64 1, .int .i64 9] w fun e w' => e = .returned (.bool (fromB 1 n6 9)) ∧ w = w') := law_between _ _ _
  have HT6 : Aside (∀ w, Calls Tryd.prog 35 #[.int .i64 n7, .int .i64 0, .int .i64 100000] w fun e w' => e = .returned (.bool (fromB 0 n7 100000)) ∧ w = w') := law_between _ _ _
  have HT7 : Aside (∀ w, Calls Tryd.prog 36 #[.int .i64 n10] w fun e w' => e = .returned (.bool (fromB 0 n10 1125899906842624)) ∧ w = w') := law_cents _
  have HT8 : Aside (∀ w, Calls Tryd.prog 36 #[.int .i64 n11] w fun e w' => e = .returned (.bool (fromB 0 n11 1125899906842624)) ∧ w = w') := law_cents _
  have HT9 : Aside (∀ w, Calls Tryd.prog 36 #[.int .i64 n12] w fun e w' => e = .returned (.bool (fromB 0 n12 1125899906842624)) ∧ w = w') := law_cents _
  have HT10 : Aside (∀ w, Calls Tryd.prog 36 #[.int .i64 n13] w fun e w' => e = .returned (.bool (fromB 0 n13 1125899906842624)) ∧ w = w') := law_cents _
  generalize fromB 1 n0 100 = t0 at *
  generalize fromB 0 n1 19 = t1 at *
  generalize fromB 0 n2 3 = t2 at *
  generalize fromB 0 n3 1000 = t3 at *
  generalize fromB (-1) n4 199 = t4 at *
  generalize fromB 1 n6 9 = t5 at *
  generalize fromB 0 n7 100000 = t6 at *
  generalize fromB 0 n10 1125899906842624 = t7 at *
  generalize fromB 0 n11 1125899906842624 = t8 at *
  generalize fromB 0 n12 1125899906842624 = t9 at *
  generalize fromB 0 n13 1125899906842624 = t10 at *
  generalize fromB 1 (uN : Int) 200 = q1 at *
  obtain ⟨qa, hqa⟩ : ∃ q, q = allB (okL us gs) uN := ⟨_, rfl⟩
  rw [← hqa]
  have HQA := Lib.hid hqa
  clear hqa
  go_enter Tryd.func16, Tryd.ntmps16
  go_wp2_with fail
  rw [← hW]
  clear hW
  obtain ⟨g1, hg1⟩ : ∃ g, g = w.heap.size := ⟨_, rfl⟩
  rw [← hg1] at HX ⊢
  obtain ⟨y0, y1, y2, y3, y4, y5, y6, y7, y8, y9, y10, y11, y12, y13⟩ := HX.out.cells
  have hl := HX.out.lt
  clear hg1
  refine Calls.mono (HC1.out _) ?_
  rintro e w2 ⟨rfl, rfl⟩
  clear HC1
  cases q1 with
  | false =>
    go_wp2
    go_ret
    exact ⟨rfl, HB.out⟩
  | true =>
    by_cases c10 : gN = uN
    · have e10 : ((gN : Int) == (uN : Int)) = true := by rw [c10]; simp
      have e11 : ((gN : Int) != (uN : Int)) = false := by rw [c10]; simp
      have HG : Hid (gN = uN) := c10
      clear c10
      go_wp2
      clear y0 y1 y2 y3 y4 y5 y6 y7 y8 y9 y10 y11 y12 y13
      go_loopw [3, 21] (fun _ i wr => ∃ k : Nat, k ≤ uN ∧ i = .int .i64 k ∧ Hid (∀ j, j < k → okL us gs j = true) ∧ Aside (Below W.heap.size W wr)) (fun _ i _ => uN - (intOf i).toNat)
      case atStart => exact ⟨0, Nat.zero_le _, rfl, fun j hj => absurd hj (Nat.not_lt_zero _), Below.refl _ _⟩
      case round =>
        obtain ⟨k, hk, rfl, HK, HBR⟩ := hrel
        have HXR : Aside _ := HX.out.below HBR.out
        by_cases hlt : k < uN
        · have hkn : (k : Int) < (uN : Int) := by omega
          have hkg : (k : Int) < (gN : Int) := by have := HG.out; omega
          have hk0 : (0 : Int) ≤ (k : Int) := by omega
          obtain ⟨bu, ou, hua, hub, huc⟩ : ∃ b o, uA = some ⟨b, o, none⟩ ∧ b < W.heap.size ∧ ∀ i (h : i < us.length), W.cell? ⟨b, o + i, none⟩ = some (.int .i64 us[i]) := by
            rcases H.out.u.at' with e | e
            · have := H.out.u.len; rw [e] at this; exact absurd hlt (by have h0 : 0 = uN := this; omega)
            · exact e
          obtain ⟨bg, og, hga, hgb, hgc⟩ : ∃ b o, gA = some ⟨b, o, none⟩ ∧ b < W.heap.size ∧ ∀ i (h : i < gs.length), W.cell? ⟨b, o + i, none⟩ = some (.int .i64 gs[i]) := by
            rcases H.out.g.at' with e | e
            · have := H.out.g.len; rw [e] at this; exact absurd hkg (by have h0 : 0 = gN := this; omega)
            · exact e
          have hlu : k < us.length := by rw [show us.length = uN from H.out.u.len]; exact hlt
          have hlg : k < gs.length := by rw [show gs.length = gN from H.out.g.len]; omega
          have ck : wr.cell? ⟨bu, ou + k, none⟩ = some (.int .i64 (us.getD k 0)) := by rw [getD_at hlu]; exact (HBR.out.cell (p := ⟨bu, ou + k, none⟩) hub).trans (huc k hlu)
          have cg : wr.cell? ⟨bg, og + k, none⟩ = some (.int .i64 (gs.getD k 0)) := by rw [getD_at hlg]; exact (HBR.out.cell (p := ⟨bg, og + k, none⟩) hgb).trans (hgc k hlg)
          have HF : Hid (okL us gs k = false → qa = false) := fun e => by rw [HQA.out]; exact allB_no hlt e
          have HT : Hid (okL us gs k = true → ∀ j, j < k + 1 → okL us gs j = true) := fun e j hj => by
            by_cases q : j = k
            · subst q; exact e
            · exact HK.out j (by omega)
          have HO : Hid (okL us gs k = (fromB 0 (us.getD k 0) 199 && ((decide (k = 0) || decide (us.getD (k - 1) 0 < us.getD k 0)) && fromB (-1) (gs.getD k 0) 4))) := rfl
          obtain ⟨-, -, -, -, -, -, -, -, y8, y9, -⟩ := HXR.out.cells
          have hl9 := HXR.out.lt
          subst hua hga
          by_cases hz : k = 0
          · have hz1 : ¬ (0 : Int) < (k : Int) := by omega
            have hz2 : decide (0 < k) = false := decide_eq_false (by omega)
            have HO' : Hid (okL us gs k = (fromB 0 (us.getD k 0) 199 && fromB (-1) (gs.getD k 0) 4)) := by show _ = _; rw [HO.out, decide_eq_true hz, Bool.true_or, Bool.true_and]
            clear hz HO huc hgc
            generalize us.getD k 0 = x at *
            generalize gs.getD k 0 = g at *
            cases e1 : fromB 0 x 199 with
            | false =>
              have HE := Lib.hid (HF.out (by rw [HO'.out, e1]; rfl))
              clear HF HT HO' HK HG H
              go_upto_region 6 with (fail)
              as_aux_lemma =>
                go_quiet ((first | (go_at_call 35; exact Calls.quiet_of_same (law_between' _ _ _ _)) | fail))
                go_wp2
                go_ret
                exact ⟨by first | (rw [HE.out, e10]; rfl) | (rw [HE.out]; rfl), HB.out.trans ((below_drawn HBR.out _).mono HB.out.size)⟩
            | true =>
              cases e2 : fromB (-1) g 4 with
              | false =>
                have HE := Lib.hid (HF.out (by rw [HO'.out, e1, e2]; rfl))
                clear HF HT HO' HK HG H
                go_upto_region 6 with (fail)
                as_aux_lemma =>
                  go_quiet ((first | (go_at_call 35; exact Calls.quiet_of_same (law_between' _ _ _ _)) | fail))
                  go_wp2
                  go_ret
                  exact ⟨by first | (rw [HE.out, e10]; rfl) | (rw [HE.out]; rfl), HB.out.trans ((below_drawn HBR.out _).mono HB.out.size)⟩
              | true =>
                have HE := Lib.hid (HT.out (by rw [HO'.out, e1, e2]; rfl))
                clear HF HT HO' HK H
                go_upto_region 6 with (fail)
                go_quiet ((first | (go_at_call 35; exact Calls.quiet_of_same (law_between' _ _ _ _)) | fail))
                go_wp2
                go_roundw
                case rel => exact ⟨k + 1, by omega, by go_num, HE.out, below_drawn HBR.out _⟩
                case measure => simp [intOf]; omega
          · have hz1 : (0 : Int) < (k : Int) := by omega
            have hz2 : decide (0 < k) = true := decide_eq_true (by omega)
            obtain ⟨j, hj⟩ : ∃ j, j = k - 1 := ⟨_, rfl⟩
            have hwr : IntKind.i64.wrap ((k : Int) - 1) = (j : Int) := by rw [IntWalk.i64_in _ (by omega)]; omega
            have hj0 : (0 : Int) ≤ (j : Int) := by omega
            have hju : (j : Int) < (uN : Int) := by omega
            have hlj : j < us.length := by omega
            have cj : wr.cell? ⟨bu, ou + j, none⟩ = some (.int .i64 (us.getD j 0)) := by rw [getD_at hlj]; exact (HBR.out.cell (p := ⟨bu, ou + j, none⟩) hub).trans (huc j hlj)
            have HO' : Hid (okL us gs k = (fromB 0 (us.getD k 0) 199 && (decide (us.getD j 0 < us.getD k 0) && fromB (-1) (gs.getD k 0) 4))) := by show _ = _; rw [HO.out, decide_eq_false hz, Bool.false_or, hj]
            clear hz HO huc hgc hj hlj
            generalize us.getD k 0 = x at *
            generalize us.getD j 0 = z at *
            generalize gs.getD k 0 = g at *
            cases e1 : fromB 0 x 199 with
            | false =>
              have HE := Lib.hid (HF.out (by rw [HO'.out, e1]; rfl))
              clear HF HT HO' HK HG H
              go_upto_region 6 with (fail)
              as_aux_lemma =>
                go_quiet ((first | (go_at_call 35; exact Calls.quiet_of_same (law_between' _ _ _ _)) | fail))
                go_wp2
                go_ret
                exact ⟨by first | (rw [HE.out, e10]; rfl) | (rw [HE.out]; rfl), HB.out.trans ((below_drawn HBR.out _).mono HB.out.size)⟩
            | true =>
              by_cases e3 : x ≤ z
              · have HE := Lib.hid (HF.out (by rw [HO'.out, e1, decide_eq_false (p := z < x) (by omega)]; rfl))
                clear HF HT HO' HK HG H
                go_upto_region 6 with (fail)
                as_aux_lemma =>
                  go_quiet ((first | (go_at_call 35; exact Calls.quiet_of_same (law_between' _ _ _ _)) | fail))
                  go_wp2
                  go_ret
                  exact ⟨by first | (rw [HE.out, e10]; rfl) | (rw [HE.out]; rfl), HB.out.trans ((below_drawn HBR.out _).mono HB.out.size)⟩
              · cases e2 : fromB (-1) g 4 with
                | false =>
                  have HE := Lib.hid (HF.out (by rw [HO'.out, e1, decide_eq_true (p := z < x) (by omega), e2]; rfl))
                  clear HF HT HO' HK HG H
                  go_upto_region 6 with (fail)
                  as_aux_lemma =>
                    go_quiet ((first | (go_at_call 35; exact Calls.quiet_of_same (law_between' _ _ _ _)) | fail))
                    go_wp2
                    go_ret
                    exact ⟨by first | (rw [HE.out, e10]; rfl) | (rw [HE.out]; rfl), HB.out.trans ((below_drawn HBR.out _).mono HB.out.size)⟩
                | true =>
                  have HE := Lib.hid (HT.out (by rw [HO'.out, e1, decide_eq_true (p := z < x) (by omega), e2]; rfl))
                  clear HF HT HO' HK H
                  go_upto_region 6 with (fail)
                  go_quiet ((first | (go_at_call 35; exact Calls.quiet_of_same (law_between' _ _ _ _)) | fail))
                  go_wp2
                  go_roundw
                  case rel => exact ⟨k + 1, by omega, by go_num, HE.out, below_drawn HBR.out _⟩
                  case measure => simp [intOf]; omega
        · obtain rfl : k = uN := by omega
          have HE : Hid (qa = true) := by show _ = _; rw [HQA.out]; exact allB_true.2 HK.out
          have HBF : Aside (Below w.heap.size w wr) := HB.out.trans (HBR.out.mono HB.out.size)
          obtain ⟨y0, y1, y2, y3, y4, y5, y6, y7, -, -, y10, y11, y12, y13⟩ := HXR.out.cells
          have hl9 := HXR.out.lt
          clear HX HB HK H HBR HXR HG
          go_wp2_with fail
          refine Calls.mono (HT0.out _) ?_
          rintro e w2 ⟨rfl, rfl⟩
          clear HT0
          cases t0 with
          | false =>
            as_aux_lemma =>
              clear HT1 HT2 HT3 HT4 HT5 HT6 HT7 HT8 HT9 HT10
              go_wp2
              go_ret
              exact ⟨by first | (rw [HE.out, e10]; rfl) | (rw [HE.out]; rfl), HBF.out⟩
          | true =>
            go_wp2_with fail
            refine Calls.mono (HT1.out _) ?_
            rintro e w2 ⟨rfl, rfl⟩
            clear HT1
            cases t1 with
            | false =>
              as_aux_lemma =>
                clear HT2 HT3 HT4 HT5 HT6 HT7 HT8 HT9 HT10
                go_wp2
                go_ret
                exact ⟨by first | (rw [HE.out, e10]; rfl) | (rw [HE.out]; rfl), HBF.out⟩
            | true =>
              go_wp2_with fail
              refine Calls.mono (HT2.out _) ?_
              rintro e w2 ⟨rfl, rfl⟩
              clear HT2
              cases t2 with
              | false =>
                as_aux_lemma =>
                  clear HT3 HT4 HT5 HT6 HT7 HT8 HT9 HT10
                  go_wp2
                  go_ret
                  exact ⟨by first | (rw [HE.out, e10]; rfl) | (rw [HE.out]; rfl), HBF.out⟩
              | true =>
                go_wp2_with fail
                refine Calls.mono (HT3.out _) ?_
                rintro e w2 ⟨rfl, rfl⟩
                clear HT3
                cases t3 with
                | false =>
                  as_aux_lemma =>
                    clear HT4 HT5 HT6 HT7 HT8 HT9 HT10
                    go_wp2
                    go_ret
                    exact ⟨by first | (rw [HE.out, e10]; rfl) | (rw [HE.out]; rfl), HBF.out⟩
                | true =>
                  go_wp2_with fail
                  refine Calls.mono (HT4.out _) ?_
                  rintro e w2 ⟨rfl, rfl⟩
                  clear HT4
                  cases t4 with
                  | false =>
                    as_aux_lemma =>
                      clear HT5 HT6 HT7 HT8 HT9 HT10
                      go_wp2
                      go_ret
                      exact ⟨by first | (rw [HE.out, e10]; rfl) | (rw [HE.out]; rfl), HBF.out⟩
                  | true =>
                    go_wp2_with fail
                    refine Calls.mono (HT5.out _) ?_
                    rintro e w2 ⟨rfl, rfl⟩
                    clear HT5
                    cases t5 with
                    | false =>
                      as_aux_lemma =>
                        clear HT6 HT7 HT8 HT9 HT10
                        go_wp2
                        go_ret
                        exact ⟨by first | (rw [HE.out, e10]; rfl) | (rw [HE.out]; rfl), HBF.out⟩
                    | true =>
                      go_wp2_with fail
                      refine Calls.mono (HT6.out _) ?_
                      rintro e w2 ⟨rfl, rfl⟩
                      clear HT6
                      cases t6 with
                      | false =>
                        as_aux_lemma =>
                          clear HT7 HT8 HT9 HT10
                          go_wp2
                          go_ret
                          exact ⟨by first | (rw [HE.out, e10]; rfl) | (rw [HE.out]; rfl), HBF.out⟩
                      | true =>
                        go_wp2_with fail
                        refine Calls.mono (HT7.out _) ?_
                        rintro e w2 ⟨rfl, rfl⟩
                        clear HT7
                        cases t7 with
                        | false =>
                          as_aux_lemma =>
                            clear HT8 HT9 HT10
                            go_wp2
                            go_ret
                            exact ⟨by first | (rw [HE.out, e10]; rfl) | (rw [HE.out]; rfl), HBF.out⟩
                        | true =>
                          go_wp2_with fail
                          refine Calls.mono (HT8.out _) ?_
                          rintro e w2 ⟨rfl, rfl⟩
                          clear HT8
                          cases t8 with
                          | false =>
                            as_aux_lemma =>
                              clear HT9 HT10
                              go_wp2
                              go_ret
                              exact ⟨by first | (rw [HE.out, e10]; rfl) | (rw [HE.out]; rfl), HBF.out⟩
                          | true =>
                            go_wp2_with fail
                            refine Calls.mono (HT9.out _) ?_
                            rintro e w2 ⟨rfl, rfl⟩
                            clear HT9
                            cases t9 with
                            | false =>
                              as_aux_lemma =>
                                clear HT10
                                go_wp2
                                go_ret
                                exact ⟨by first | (rw [HE.out, e10]; rfl) | (rw [HE.out]; rfl), HBF.out⟩
                            | true =>
                              go_wp2_with fail
                              refine Calls.mono (HT10.out _) ?_
                              rintro e w2 ⟨rfl, rfl⟩
                              clear HT10
                              cases t10 with
                              | false =>
                                go_wp2
                                go_ret
                                exact ⟨by first | (rw [HE.out, e10]; rfl) | (rw [HE.out]; rfl), HBF.out⟩
                              | true =>
                                go_wp2
                                go_ret
                                exact ⟨by first | (rw [HE.out, e10]; rfl) | (rw [HE.out]; rfl), HBF.out⟩
    · have e10 : ((gN : Int) == (uN : Int)) = false := by rw [beq_eq_false_iff_ne]; omega
      have e11 : ((gN : Int) != (uN : Int)) = true := by rw [bne_iff_ne]; omega
      clear c10
      go_wp2
      go_ret
      exact ⟨by rw [e10]; rfl, HB.out⟩
end Go.Proofs.YtkjkamcjbhhefaaDoor
