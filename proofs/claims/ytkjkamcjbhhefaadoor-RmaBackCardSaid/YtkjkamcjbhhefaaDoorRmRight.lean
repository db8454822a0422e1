/-
  Package rma: Right. Conditions: those of each theorem.
-/
import Derived.Test.YtkjkamcjbhhefaaDoorRmAre
namespace Go.Proofs.YtkjkamcjbhhefaaDoor
open Go.RowKit
set_option maxRecDepth 100000

/-- A return is right. -/
def rightB (r : Ret) (us gs : List Int) : Bool :=
  fromB 1 r.num 100 && (fromB 0 r.ord 19 && (fromB 1 (r.uN : Int) 200 && (allB (unitOk us) r.uN && (fromB 0 r.rea 3 && (fromB 0 r.want 1000 && (fromB (-1) r.res 199 && (fromB 1 r.st 9 && (fromB 0 r.day 100000 && (((r.gN : Int) == (r.uN : Int)) && (allB (inB (-1) 4 gs) r.gN && allB (inB 0 1125899906842624 [r.wor, r.pai, r.cre, r.giv]) 4))))))))))
theorem four_ints (W : World) (a b c d : Int) : IsInts (W.alloc (.cells #[.int .i64 a, .int .i64 b, .int .i64 c, .int .i64 d] 2)) (some ⟨W.heap.size, 0, none⟩) [a, b, c, d] := by
  refine .inr ⟨_, _, rfl, by simp, fun i hi => ?_⟩
  rw [Nat.zero_add, cell_of_row _ _ i _ _ _ (heap_alloc_new W _)]
  have hi : i < 4 := hi
  match i, hi with
  | 0, _ => rfl
  | 1, _ => rfl
  | 2, _ => rfl
  | 3, _ => rfl
theorem one_box (w : World) (t : TypeId) (r : Ret) : ∃ W, W = w.alloc (.cells #[.int .i64 r.num, .int .i64 r.ord, .int .i64 r.rea, .int .i64 r.want, .int .i64 r.res, .bool r.cred, .int .i64 r.st, .int .i64 r.day, .slice r.uA r.uN r.uC, .slice r.gA r.gN r.gC, .int .i64 r.wor, .int .i64 r.pai, .int .i64 r.cre, .int .i64 r.giv] t) ∧ W.heap.size = w.heap.size + 1 ∧ Below w.heap.size w W ∧ RetBox W w.heap.size t r := ⟨_, rfl, by simp, upd_box _, RetBox.made w t r⟩

set_option maxHeartbeats 8000000 in
theorem rma_right (r : Ret) (us gs : List Int) (w : World) (h : RetAt w r us gs) (hu : r.uN ≤ 100000) (hg : r.gN ≤ 100000) :
    Calls Tryd.prog 15 #[.agg #[.int .i64 r.num, .int .i64 r.ord, .int .i64 r.rea, .int .i64 r.want, .int .i64 r.res, .bool r.cred, .int .i64 r.st, .int .i64 r.day, .slice r.uA r.uN r.uC, .slice r.gA r.gN r.gC, .int .i64 r.wor, .int .i64 r.pai, .int .i64 r.cre, .int .i64 r.giv]] w fun e w' => e = .returned (.bool (rightB r us gs)) ∧ Below w.heap.size w w' := by
  obtain ⟨n0, n1, n2, n3, n4, n5, n6, n7, uA, uN, uC, gA, gN, gC, n10, n11, n12, n13⟩ := r
  dsimp only at *
  obtain ⟨W, hW, hs2, hb2, X1⟩ := one_box w 32 ⟨n0, n1, n2, n3, n4, n5, n6, n7, uA, uN, uC, gA, gN, gC, n10, n11, n12, n13⟩
  dsimp only at hW
  have H : Aside _ := h.below hb2
  have HB : Aside (Below w.heap.size w W) := hb2
  have HX : Aside _ := X1
  clear X1 hb2 hs2 h
  have HC1 : Aside (Calls Tryd.prog 31 #[.int .i64 1, .int .i64 n0, .int .i64 100] W fun e w' => e = .returned (.bool (fromB 1 n0 100)) ∧ W = w') := is_from _ _ _ _
  have HC2 : Aside (Calls Tryd.prog 31 #[.int .i64 0, .int .i64 n1, .int .i64 19] W fun e w' => e = .returned (.bool (fromB 0 n1 19)) ∧ W = w') := is_from _ _ _ _
  have HC3 : Aside (Calls Tryd.prog 31 #[.int .i64 1, .int .i64 (uN : Int), .int .i64 200] W fun e w' => e = .returned (.bool (fromB 1 (uN : Int) 200)) ∧ W = w') := is_from _ _ _ _
  have HC4 : Aside (Calls Tryd.prog 32 #[.slice uA uN uC] W fun e w' => e = .returned (.bool (allB (unitOk us) uN)) ∧ W = w') := rma_areUnits H.out.u hu
  have HC5 : Aside (Calls Tryd.prog 31 #[.int .i64 0, .int .i64 n2, .int .i64 3] W fun e w' => e = .returned (.bool (fromB 0 n2 3)) ∧ W = w') := is_from _ _ _ _
  have HC6 : Aside (Calls Tryd.prog 31 #[.int .i64 0, .int .i64 n3, .int .i64 1000] W fun e w' => e = .returned (.bool (fromB 0 n3 1000)) ∧ W = w') := is_from _ _ _ _
  have HC7 : Aside (Calls Tryd.prog 31 #[.int .i64 (-1), .int .i64 n4, .int .i64 199] W fun e w' => e = .returned (.bool (fromB (-1) n4 199)) ∧ W = w') := is_from _ _ _ _
  have HC8 : Aside (Calls Tryd.prog 31 #[.int .i64 1, .int .i64 n6, .int .i64 9] W fun e w' => e = .returned (.bool (fromB 1 n6 9)) ∧ W = w') := is_from _ _ _ _
  have HC9 : Aside (Calls Tryd.prog 31 #[.int .i64 0, .int .i64 n7, .int .i64 100000] W fun e w' => e = .returned (.bool (fromB 0 n7 100000)) ∧ W = w') := is_from _ _ _ _
  have HC11 : Aside (Calls Tryd.prog 33 #[.slice gA gN gC] W fun e w' => e = .returned (.bool (allB (inB (-1) 4 gs) gN)) ∧ W = w') := rma_areGrades H.out.g.len H.out.g.at' hg
  have HC12 : Aside (Calls Tryd.prog 34 #[.slice (some ⟨W.heap.size, 0, none⟩) 4 4] (W.alloc (.cells #[.int .i64 n10, .int .i64 n11, .int .i64 n12, .int .i64 n13] 2)) fun e w' => e = .returned (.bool (allB (inB 0 1125899906842624 [n10, n11, n12, n13]) 4)) ∧ (W.alloc (.cells #[.int .i64 n10, .int .i64 n11, .int .i64 n12, .int .i64 n13] 2)) = w') := rma_areSums rfl (four_ints W n10 n11 n12 n13) (by decide)
  have hS : rightB ⟨n0, n1, n2, n3, n4, n5, n6, n7, uA, uN, uC, gA, gN, gC, n10, n11, n12, n13⟩ us gs = (fromB 1 n0 100 && (fromB 0 n1 19 && (fromB 1 (uN : Int) 200 && (allB (unitOk us) uN && (fromB 0 n2 3 && (fromB 0 n3 1000 && (fromB (-1) n4 199 && (fromB 1 n6 9 && (fromB 0 n7 100000 && (((gN : Int) == (uN : Int)) && (allB (inB (-1) 4 gs) gN && (allB (inB 0 1125899906842624 [n10, n11, n12, n13]) 4)))))))))))) := rfl
  rw [hS]
  clear hS hu hg
  generalize fromB 1 n0 100 = q1 at *
  generalize fromB 0 n1 19 = q2 at *
  generalize fromB 1 (uN : Int) 200 = q3 at *
  generalize allB (unitOk us) uN = q4 at *
  generalize fromB 0 n2 3 = q5 at *
  generalize fromB 0 n3 1000 = q6 at *
  generalize fromB (-1) n4 199 = q7 at *
  generalize fromB 1 n6 9 = q8 at *
  generalize fromB 0 n7 100000 = q9 at *
  generalize allB (inB (-1) 4 gs) gN = q11 at *
  generalize allB (inB 0 1125899906842624 [n10, n11, n12, n13]) 4 = q12 at *
  go_enter Tryd.func15, Tryd.ntmps15
  go_wp2_with fail
  rw [← hW]
  clear hW
  obtain ⟨g1, hg1⟩ : ∃ g, g = w.heap.size := ⟨_, rfl⟩
  rw [← hg1] at HX ⊢
  obtain ⟨y0, y1, y2, y3, y4, y5, y6, y7, y8, y9, y10, y11, y12, y13⟩ := HX.out.cells
  have hl := HX.out.lt
  clear hg1 HX H
  refine Calls.mono HC1.out ?_
  rintro e w2 ⟨rfl, rfl⟩
  clear HC1
  cases q1 with
  | false =>
    as_aux_lemma =>
      clear HC2 HC3 HC4 HC5 HC6 HC7 HC8 HC9 HC11 HC12
      go_wp2
      go_ret
      exact ⟨rfl, HB.out⟩
  | true =>
    go_wp2_with fail
    refine Calls.mono HC2.out ?_
    rintro e w2 ⟨rfl, rfl⟩
    clear HC2
    cases q2 with
    | false =>
      as_aux_lemma =>
        clear HC3 HC4 HC5 HC6 HC7 HC8 HC9 HC11 HC12
        go_wp2
        go_ret
        exact ⟨rfl, HB.out⟩
    | true =>
      go_wp2_with fail
      refine Calls.mono HC3.out ?_
      rintro e w2 ⟨rfl, rfl⟩
      clear HC3
      cases q3 with
      | false =>
        as_aux_lemma =>
          clear HC4 HC5 HC6 HC7 HC8 HC9 HC11 HC12
          go_wp2
          go_ret
          exact ⟨rfl, HB.out⟩
      | true =>
        go_wp2_with fail
        refine Calls.mono HC4.out ?_
        rintro e w2 ⟨rfl, rfl⟩
        clear HC4
        cases q4 with
        | false =>
          as_aux_lemma =>
            clear HC5 HC6 HC7 HC8 HC9 HC11 HC12
            go_wp2
            go_ret
            exact ⟨rfl, HB.out⟩
        | true =>
          go_wp2_with fail
          refine Calls.mono HC5.out ?_
          rintro e w2 ⟨rfl, rfl⟩
          clear HC5
          cases q5 with
          | false =>
            as_aux_lemma =>
              clear HC6 HC7 HC8 HC9 HC11 HC12
              go_wp2
              go_ret
              exact ⟨rfl, HB.out⟩
          | true =>
            go_wp2_with fail
            refine Calls.mono HC6.out ?_
            rintro e w2 ⟨rfl, rfl⟩
            clear HC6
            cases q6 with
            | false =>
              as_aux_lemma =>
                clear HC7 HC8 HC9 HC11 HC12
                go_wp2
                go_ret
                exact ⟨rfl, HB.out⟩
            | true =>
              go_wp2_with fail
              refine Calls.mono HC7.out ?_
              rintro e w2 ⟨rfl, rfl⟩
              clear HC7
              cases q7 with
              | false =>
                as_aux_lemma =>
                  clear HC8 HC9 HC11 HC12
                  go_wp2
                  go_ret
                  exact ⟨rfl, HB.out⟩
              | true =>
                go_wp2_with fail
                refine Calls.mono HC8.out ?_
                rintro e w2 ⟨rfl, rfl⟩
                clear HC8
                cases q8 with
                | false =>
                  as_aux_lemma =>
                    clear HC9 HC11 HC12
                    go_wp2
                    go_ret
                    exact ⟨rfl, HB.out⟩
                | true =>
                  go_wp2_with fail
                  refine Calls.mono HC9.out ?_
                  rintro e w2 ⟨rfl, rfl⟩
                  clear HC9
                  cases q9 with
                  | false =>
                    as_aux_lemma =>
                      clear HC11 HC12
                      go_wp2
                      go_ret
                      exact ⟨rfl, HB.out⟩
                  | true =>
                    by_cases c10 : gN = uN
                    · have e10 : ((gN : Int) == (uN : Int)) = true := by rw [c10]; simp
                      clear c10
                      go_wp2_with fail
                      refine Calls.mono HC11.out ?_
                      rintro e w2 ⟨rfl, rfl⟩
                      clear HC11
                      cases q11 with
                      | false =>
                        as_aux_lemma =>
                          clear HC12
                          go_wp2
                          go_ret
                          exact ⟨by rw [e10]; rfl, HB.out⟩
                      | true =>
                        go_wp2_with fail
                        refine Calls.mono HC12.out ?_
                        rintro e w2 ⟨rfl, rfl⟩
                        clear HC12
                        cases q12 with
                        | false =>
                          go_wp2
                          go_ret
                          exact ⟨by rw [e10]; rfl, HB.out.trans ((upd_box _).mono HB.out.size)⟩
                        | true =>
                          go_wp2
                          go_ret
                          exact ⟨by rw [e10]; rfl, HB.out.trans ((upd_box _).mono HB.out.size)⟩
                    · have e10 : ((gN : Int) == (uN : Int)) = false := by rw [beq_eq_false_iff_ne]; omega
                      clear c10 HC11 HC12
                      as_aux_lemma =>
                        go_wp2
                        go_ret
                        exact ⟨by rw [e10]; rfl, HB.out⟩
end Go.Proofs.YtkjkamcjbhhefaaDoor
