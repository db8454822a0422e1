/-
  The law's Same. Conditions: those of each theorem.
-/
import Derived.Test.YtkjkamcjbhhefaaDoorRmEq
namespace Go.Proofs.YtkjkamcjbhhefaaDoor
open Go.RowKit
set_option maxRecDepth 100000

set_option maxHeartbeats 16000000 in
theorem law_same (r s : Ret) (us gs vs hs : List Int) (w : World) (h1 : RetAt w r us gs) (h2 : RetAt w s vs hs) (hu1 : r.uN ≤ 100000) (hg1 : r.gN ≤ 100000) (hu2 : s.uN ≤ 100000) (hg2 : s.gN ≤ 100000) :
    Calls Tryd.prog 21 #[.agg #[.int .i64 r.num, .int .i64 r.ord, .int .i64 r.rea, .int .i64 r.want, .int .i64 r.res, .bool r.cred, .int .i64 r.st, .int .i64 r.day, .slice r.uA r.uN r.uC, .slice r.gA r.gN r.gC, .int .i64 r.wor, .int .i64 r.pai, .int .i64 r.cre, .int .i64 r.giv], .agg #[.int .i64 s.num, .int .i64 s.ord, .int .i64 s.rea, .int .i64 s.want, .int .i64 s.res, .bool s.cred, .int .i64 s.st, .int .i64 s.day, .slice s.uA s.uN s.uC, .slice s.gA s.gN s.gC, .int .i64 s.wor, .int .i64 s.pai, .int .i64 s.cre, .int .i64 s.giv]] w fun e w' => e = .returned (.bool (sameB r s us vs gs hs)) ∧ Below w.heap.size w w' := by
  obtain ⟨n0, n1, n2, n3, n4, n5, n6, n7, uA, uN, uC, gA, gN, gC, n10, n11, n12, n13⟩ := r
  obtain ⟨m0, m1, m2, m3, m4, m5, m6, m7, xA, xN, xC, yA, yN, yC, m10, m11, m12, m13⟩ := s
  dsimp only at *
  have HCU : Aside (∀ X, Below w.heap.size w X → Calls Tryd.prog 40 #[.slice uA uN uC, .slice xA xN xC] X fun e w' => e = .returned (.bool (eqInts us vs)) ∧ Below w.heap.size w w' ∧ Below X.heap.size X w') := fun X hX => by
    refine (law_ints uA xA us vs uN xN uC xC X (h1.u.below hX).len (h2.u.below hX).len (h1.u.below hX).at' (h2.u.below hX).at' hu1 hu2).mono ?_
    rintro e w' ⟨rfl, hb⟩
    exact ⟨rfl, hX.trans (hb.mono hX.size), hb⟩
  have HCG : Aside (∀ X, Below w.heap.size w X → Calls Tryd.prog 40 #[.slice gA gN gC, .slice yA yN yC] X fun e w' => e = .returned (.bool (eqInts gs hs)) ∧ Below w.heap.size w w' ∧ Below X.heap.size X w') := fun X hX => by
    refine (law_ints gA yA gs hs gN yN gC yC X (h1.g.below hX).len (h2.g.below hX).len (h1.g.below hX).at' (h2.g.below hX).at' hg1 hg2).mono ?_
    rintro e w' ⟨rfl, hb⟩
    exact ⟨rfl, hX.trans (hb.mono hX.size), hb⟩
  have hS : sameB ⟨n0, n1, n2, n3, n4, n5, n6, n7, uA, uN, uC, gA, gN, gC, n10, n11, n12, n13⟩ ⟨m0, m1, m2, m3, m4, m5, m6, m7, xA, xN, xC, yA, yN, yC, m10, m11, m12, m13⟩ us vs gs hs = ((n0 == m0) && ((n1 == m1) && ((n2 == m2) && ((n3 == m3) && ((n4 == m4) && ((n5 == m5) && ((n6 == m6) && ((n7 == m7) && (eqInts us vs && (eqInts gs hs && ((n10 == m10) && ((n11 == m11) && ((n12 == m12) && ((n13 == m13))))))))))))))) := rfl
  rw [hS]
  clear hS h1 h2 hu1 hg1 hu2 hg2
  obtain ⟨ca, hca⟩ : ∃ c : Array Value, c = #[.int .i64 n0, .int .i64 n1, .int .i64 n2, .int .i64 n3, .int .i64 n4, .bool n5, .int .i64 n6, .int .i64 n7, .slice uA uN uC, .slice gA gN gC, .int .i64 n10, .int .i64 n11, .int .i64 n12, .int .i64 n13] := ⟨_, rfl⟩
  obtain ⟨cb, hcb⟩ : ∃ c : Array Value, c = #[.int .i64 m0, .int .i64 m1, .int .i64 m2, .int .i64 m3, .int .i64 m4, .bool m5, .int .i64 m6, .int .i64 m7, .slice xA xN xC, .slice yA yN yC, .int .i64 m10, .int .i64 m11, .int .i64 m12, .int .i64 m13] := ⟨_, rfl⟩
  obtain ⟨W, hW, hs2, hb2, X1, X2⟩ := two_rboxes w 34 34 ⟨n0, n1, n2, n3, n4, n5, n6, n7, uA, uN, uC, gA, gN, gC, n10, n11, n12, n13⟩ ⟨m0, m1, m2, m3, m4, m5, m6, m7, xA, xN, xC, yA, yN, yC, m10, m11, m12, m13⟩
  dsimp only at hW
  rw [← hca, ← hcb] at hW ⊢
  have da0 : ca[0]? = some (.int .i64 n0) := by rw [hca]; rfl
  have da1 : ca[1]? = some (.int .i64 n1) := by rw [hca]; rfl
  have da2 : ca[2]? = some (.int .i64 n2) := by rw [hca]; rfl
  have da3 : ca[3]? = some (.int .i64 n3) := by rw [hca]; rfl
  have da4 : ca[4]? = some (.int .i64 n4) := by rw [hca]; rfl
  have da5 : ca[5]? = some (.bool n5) := by rw [hca]; rfl
  have da6 : ca[6]? = some (.int .i64 n6) := by rw [hca]; rfl
  have da7 : ca[7]? = some (.int .i64 n7) := by rw [hca]; rfl
  have da8 : ca[8]? = some (.slice uA uN uC) := by rw [hca]; rfl
  have da9 : ca[9]? = some (.slice gA gN gC) := by rw [hca]; rfl
  have da10 : ca[10]? = some (.int .i64 n10) := by rw [hca]; rfl
  have da11 : ca[11]? = some (.int .i64 n11) := by rw [hca]; rfl
  have da12 : ca[12]? = some (.int .i64 n12) := by rw [hca]; rfl
  have da13 : ca[13]? = some (.int .i64 n13) := by rw [hca]; rfl
  have db0 : cb[0]? = some (.int .i64 m0) := by rw [hcb]; rfl
  have db1 : cb[1]? = some (.int .i64 m1) := by rw [hcb]; rfl
  have db2 : cb[2]? = some (.int .i64 m2) := by rw [hcb]; rfl
  have db3 : cb[3]? = some (.int .i64 m3) := by rw [hcb]; rfl
  have db4 : cb[4]? = some (.int .i64 m4) := by rw [hcb]; rfl
  have db5 : cb[5]? = some (.bool m5) := by rw [hcb]; rfl
  have db6 : cb[6]? = some (.int .i64 m6) := by rw [hcb]; rfl
  have db7 : cb[7]? = some (.int .i64 m7) := by rw [hcb]; rfl
  have db8 : cb[8]? = some (.slice xA xN xC) := by rw [hcb]; rfl
  have db9 : cb[9]? = some (.slice yA yN yC) := by rw [hcb]; rfl
  have db10 : cb[10]? = some (.int .i64 m10) := by rw [hcb]; rfl
  have db11 : cb[11]? = some (.int .i64 m11) := by rw [hcb]; rfl
  have db12 : cb[12]? = some (.int .i64 m12) := by rw [hcb]; rfl
  have db13 : cb[13]? = some (.int .i64 m13) := by rw [hcb]; rfl
  have HB2 : Aside (Below w.heap.size w W) := hb2
  have HX1 : Aside _ := X1
  have HX2 : Aside _ := X2
  clear X1 X2 hb2 hs2 hca hcb
  generalize eqInts us vs = qu at *
  generalize eqInts gs hs = qg at *
  by_cases c0 : n0 = m0
  · have e0 : ((n0 : Int) == m0) = true := by simpa using c0
    clear c0
    by_cases c1 : n1 = m1
    · have e1 : ((n1 : Int) == m1) = true := by simpa using c1
      clear c1
      by_cases c2 : n2 = m2
      · have e2 : ((n2 : Int) == m2) = true := by simpa using c2
        clear c2
        by_cases c3 : n3 = m3
        · have e3 : ((n3 : Int) == m3) = true := by simpa using c3
          clear c3
          by_cases c4 : n4 = m4
          · have e4 : ((n4 : Int) == m4) = true := by simpa using c4
            clear c4
            by_cases c5 : n5 = m5
            · have e5 : ((n5 : Bool) == m5) = true := by simpa using c5
              clear c5
              by_cases c6 : n6 = m6
              · have e6 : ((n6 : Int) == m6) = true := by simpa using c6
                clear c6
                by_cases c7 : n7 = m7
                · have e7 : ((n7 : Int) == m7) = true := by simpa using c7
                  clear c7
                  simp only [e0, e1, e2, e3, e4, e5, e6, e7, Bool.true_and]
                  go_enter Tryd.func21, Tryd.ntmps21
                  go_wp2_with fail
                  rw [← hW]
                  clear hW
                  refine Calls.mono (HCU.out _ HB2.out) ?_
                  rintro e w8 ⟨rfl, b8, l8⟩
                  have HB8 : Aside _ := b8
                  have HX18 : Aside _ := HX1.out.below l8
                  have HX28 : Aside _ := HX2.out.below l8
                  obtain ⟨g2, hg2⟩ : ∃ g, g = w.heap.size + 1 := ⟨_, rfl⟩
                  rw [← hg2] at HX28 ⊢
                  obtain ⟨g1, hg1⟩ : ∃ g, g = w.heap.size := ⟨_, rfl⟩
                  rw [← hg1] at HX18 ⊢
                  clear b8 l8 HCU HB2 HX1 HX2 hg1 hg2
                  obtain ⟨-, -, -, -, -, -, -, -, -, y9, -⟩ := HX18.out.cells
                  obtain ⟨-, -, -, -, -, -, -, -, -, z9, -⟩ := HX28.out.cells
                  cases qu with
                  | false =>
                    as_aux_lemma =>
                      clear y9 z9 HCG
                      go_wp2
                      go_ret
                      exact ⟨rfl, HB8.out⟩
                  | true =>
                    go_wp2_with fail
                    refine Calls.mono (HCG.out _ HB8.out) ?_
                    rintro e w9 ⟨rfl, b9, l9⟩
                    have HB9 : Aside _ := b9
                    have HX19 : Aside _ := HX18.out.below l9
                    have HX29 : Aside _ := HX28.out.below l9
                    clear b9 l9 HCG HB8 HX18 HX28 y9 z9
                    obtain ⟨-, -, -, -, -, -, -, -, -, -, y10, y11, y12, y13⟩ := HX19.out.cells
                    obtain ⟨-, -, -, -, -, -, -, -, -, -, z10, z11, z12, z13⟩ := HX29.out.cells
                    cases qg with
                    | false =>
                      as_aux_lemma =>
                        clear y10 y11 y12 y13 z10 z11 z12 z13
                        go_wp2
                        go_ret
                        exact ⟨rfl, HB9.out⟩
                    | true =>
                      by_cases c10 : n10 = m10
                      · have e10 : ((n10 : Int) == m10) = true := by simpa using c10
                        clear c10
                        by_cases c11 : n11 = m11
                        · have e11 : ((n11 : Int) == m11) = true := by simpa using c11
                          clear c11
                          by_cases c12 : n12 = m12
                          · have e12 : ((n12 : Int) == m12) = true := by simpa using c12
                            clear c12
                            by_cases c13 : n13 = m13
                            · have e13 : ((n13 : Int) == m13) = true := by simpa using c13
                              clear c13
                              as_aux_lemma =>
                                go_wp2
                                go_ret
                                exact ⟨by rw [e10, e11, e12, e13]; rfl, HB9.out⟩
                            · have e13 : ((n13 : Int) == m13) = false := by simpa using c13
                              clear c13
                              as_aux_lemma =>
                                go_wp2
                                go_ret
                                exact ⟨by rw [e10, e11, e12, e13]; rfl, HB9.out⟩
                          · have e12 : ((n12 : Int) == m12) = false := by simpa using c12
                            clear c12
                            as_aux_lemma =>
                              go_wp2
                              go_ret
                              exact ⟨by rw [e10, e11, e12]; rfl, HB9.out⟩
                        · have e11 : ((n11 : Int) == m11) = false := by simpa using c11
                          clear c11
                          as_aux_lemma =>
                            go_wp2
                            go_ret
                            exact ⟨by rw [e10, e11]; rfl, HB9.out⟩
                      · have e10 : ((n10 : Int) == m10) = false := by simpa using c10
                        clear c10
                        as_aux_lemma =>
                          go_wp2
                          go_ret
                          exact ⟨by rw [e10]; rfl, HB9.out⟩
                · have e7 : ((n7 : Int) == m7) = false := by simpa using c7
                  clear c7 HCU HCG hW HB2 HX1 HX2
                  simp only [e0, e1, e2, e3, e4, e5, e6, e7, Bool.true_and, Bool.false_and]
                  as_aux_lemma =>
                    go_enter Tryd.func21, Tryd.ntmps21
                    go_wp2
                    go_ret
                    exact ⟨rfl, blw_alloc (upd_box _) _⟩
              · have e6 : ((n6 : Int) == m6) = false := by simpa using c6
                clear c6 HCU HCG hW HB2 HX1 HX2
                simp only [e0, e1, e2, e3, e4, e5, e6, Bool.true_and, Bool.false_and]
                as_aux_lemma =>
                  go_enter Tryd.func21, Tryd.ntmps21
                  go_wp2
                  go_ret
                  exact ⟨rfl, blw_alloc (upd_box _) _⟩
            · have e5 : ((n5 : Bool) == m5) = false := by simpa using c5
              clear c5 HCU HCG hW HB2 HX1 HX2
              simp only [e0, e1, e2, e3, e4, e5, Bool.true_and, Bool.false_and]
              as_aux_lemma =>
                go_enter Tryd.func21, Tryd.ntmps21
                go_wp2
                go_ret
                exact ⟨rfl, blw_alloc (upd_box _) _⟩
          · have e4 : ((n4 : Int) == m4) = false := by simpa using c4
            clear c4 HCU HCG hW HB2 HX1 HX2
            simp only [e0, e1, e2, e3, e4, Bool.true_and, Bool.false_and]
            as_aux_lemma =>
              go_enter Tryd.func21, Tryd.ntmps21
              go_wp2
              go_ret
              exact ⟨rfl, blw_alloc (upd_box _) _⟩
        · have e3 : ((n3 : Int) == m3) = false := by simpa using c3
          clear c3 HCU HCG hW HB2 HX1 HX2
          simp only [e0, e1, e2, e3, Bool.true_and, Bool.false_and]
          as_aux_lemma =>
            go_enter Tryd.func21, Tryd.ntmps21
            go_wp2
            go_ret
            exact ⟨rfl, blw_alloc (upd_box _) _⟩
      · have e2 : ((n2 : Int) == m2) = false := by simpa using c2
        clear c2 HCU HCG hW HB2 HX1 HX2
        simp only [e0, e1, e2, Bool.true_and, Bool.false_and]
        as_aux_lemma =>
          go_enter Tryd.func21, Tryd.ntmps21
          go_wp2
          go_ret
          exact ⟨rfl, blw_alloc (upd_box _) _⟩
    · have e1 : ((n1 : Int) == m1) = false := by simpa using c1
      clear c1 HCU HCG hW HB2 HX1 HX2
      simp only [e0, e1, Bool.true_and, Bool.false_and]
      as_aux_lemma =>
        go_enter Tryd.func21, Tryd.ntmps21
        go_wp2
        go_ret
        exact ⟨rfl, blw_alloc (upd_box _) _⟩
  · have e0 : ((n0 : Int) == m0) = false := by simpa using c0
    clear c0 HCU HCG hW HB2 HX1 HX2
    simp only [e0, Bool.false_and]
    as_aux_lemma =>
      go_enter Tryd.func21, Tryd.ntmps21
      go_wp2
      go_ret
      exact ⟨rfl, blw_alloc (upd_box _) _⟩
end Go.Proofs.YtkjkamcjbhhefaaDoor
