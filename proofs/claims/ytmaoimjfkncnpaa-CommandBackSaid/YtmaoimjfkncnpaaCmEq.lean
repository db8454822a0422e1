/-
  Package command: Equal. Conditions: those of each theorem.
-/
import Derived.Test.YtmaoimjfkncnpaaCm
namespace Go.Proofs.Ytmaoimjfkncnpaa
open Go.RowKit
set_option maxRecDepth 100000

/-- Alike in all. -/
def sameB (r s : Com) (us vs : List Int) : Bool :=
  (r.kind == s.kind) && ((r.ord == s.ord) && (eqInts us vs && ((r.rea == s.rea) && ((r.want == s.want) && ((r.cred == s.cred) && ((r.rma == s.rma) && ((r.unit == s.unit) && ((r.grd == s.grd) && ((r.days == s.days) && ((r.key == s.key) && ((r.yes == s.yes))))))))))))
theorem sameB_self (r : Com) (us : List Int) : sameB r r us us = true := by simp [sameB, eqInts]

set_option maxHeartbeats 16000000 in
theorem cm_equal (r s : Com) (us vs : List Int) (w : World) (h1 : LiAt w r.uA r.uN r.uC us) (h2 : LiAt w s.uA s.uN s.uC vs) (hu1 : r.uN ≤ 100000) (hu2 : s.uN ≤ 100000) :
    Calls Try.prog 18 #[.agg #[.int .i64 r.kind, .int .i64 r.ord, .slice r.uA r.uN r.uC, .int .i64 r.rea, .int .i64 r.want, .bool r.cred, .int .i64 r.rma, .int .i64 r.unit, .int .i64 r.grd, .int .i64 r.days, .int .i64 r.key, .bool r.yes], .agg #[.int .i64 s.kind, .int .i64 s.ord, .slice s.uA s.uN s.uC, .int .i64 s.rea, .int .i64 s.want, .bool s.cred, .int .i64 s.rma, .int .i64 s.unit, .int .i64 s.grd, .int .i64 s.days, .int .i64 s.key, .bool s.yes]] w fun e w' => e = .returned (.bool (sameB r s us vs)) ∧ Below w.heap.size w w' := by
  obtain ⟨n0, n1, uA, uN, uC, n3, n4, n5, n6, n7, n8, n9, n10, n11⟩ := r
  obtain ⟨m0, m1, xA, xN, xC, m3, m4, m5, m6, m7, m8, m9, m10, m11⟩ := s
  dsimp only at *
  have HCU : Aside (∀ X, Below w.heap.size w X → Calls Try.prog 32 #[.slice uA uN uC, .slice xA xN xC] X fun e w' => e = .returned (.bool (eqInts us vs)) ∧ Below w.heap.size w w' ∧ Below X.heap.size X w') := fun X hX => by
    refine (slices_equal uA xA us vs uN xN uC xC X (h1.below hX).len (h2.below hX).len (h1.below hX).at' (h2.below hX).at' hu1 hu2).mono ?_
    rintro e w' ⟨rfl, hb⟩
    exact ⟨rfl, hX.trans (hb.mono hX.size), hb⟩
  have hS : sameB ⟨n0, n1, uA, uN, uC, n3, n4, n5, n6, n7, n8, n9, n10, n11⟩ ⟨m0, m1, xA, xN, xC, m3, m4, m5, m6, m7, m8, m9, m10, m11⟩ us vs = ((n0 == m0) && ((n1 == m1) && (eqInts us vs && ((n3 == m3) && ((n4 == m4) && ((n5 == m5) && ((n6 == m6) && ((n7 == m7) && ((n8 == m8) && ((n9 == m9) && ((n10 == m10) && ((n11 == m11))))))))))))) := rfl
  rw [hS]
  clear hS h1 h2 hu1 hu2
  obtain ⟨W, hW, hs2, hb2, X1, X2⟩ := two_boxes w 30 30 ⟨n0, n1, uA, uN, uC, n3, n4, n5, n6, n7, n8, n9, n10, n11⟩ ⟨m0, m1, xA, xN, xC, m3, m4, m5, m6, m7, m8, m9, m10, m11⟩
  dsimp only at hW
  have HB2 : Aside (Below w.heap.size w W) := hb2
  have HX1 : Aside _ := X1
  have HX2 : Aside _ := X2
  clear X1 X2 hb2 hs2
  generalize eqInts us vs = qu at *
  by_cases c0 : n0 = m0
  · have e0 : ((n0 : Int) == m0) = true := by simpa using c0
    clear c0
    by_cases c1 : n1 = m1
    · have e1 : ((n1 : Int) == m1) = true := by simpa using c1
      clear c1
      simp only [e0, e1, Bool.true_and]
      go_enter Try.func18, Try.ntmps18
      go_wp2_with fail
      rw [← hW]
      clear hW
      refine Calls.mono (HCU.out _ HB2.out) ?_
      rintro e w8 ⟨rfl, b8, l8⟩
      have HB8 : Aside _ := b8
      have HX18 : Aside _ := HX1.out.below l8
      have HX28 : Aside _ := HX2.out.below l8
      obtain ⟨g2, hg2⟩ : ∃ g, g = w.heap.size + 1 := ⟨_, rfl⟩
      rw [← hg2] at HX28 ⊢
      obtain ⟨g1, hg1⟩ : ∃ g, g = w.heap.size := ⟨_, rfl⟩
      rw [← hg1] at HX18 ⊢
      clear b8 l8 HCU HB2 HX1 HX2 hg1 hg2
      obtain ⟨-, -, -, y3, y4, y5, y6, y7, y8, y9, y10, y11⟩ := HX18.out.cells
      obtain ⟨-, -, -, z3, z4, z5, z6, z7, z8, z9, z10, z11⟩ := HX28.out.cells
      dsimp only at y3 z3 y4 z4 y5 z5 y6 z6 y7 z7 y8 z8 y9 z9 y10 z10 y11 z11
      clear HX18 HX28
      cases qu with
      | false =>
        as_aux_lemma =>
          go_wp2
          go_ret
          exact ⟨rfl, HB8.out⟩
      | true =>
        by_cases c3 : n3 = m3
        · have e3 : ((n3 : Int) == m3) = true := by simpa using c3
          clear c3
          by_cases c4 : n4 = m4
          · have e4 : ((n4 : Int) == m4) = true := by simpa using c4
            clear c4
            by_cases c5 : n5 = m5
            · have e5 : ((n5 : Bool) == m5) = true := by simpa using c5
              clear c5
              by_cases c6 : n6 = m6
              · have e6 : ((n6 : Int) == m6) = true := by simpa using c6
                clear c6
                by_cases c7 : n7 = m7
                · have e7 : ((n7 : Int) == m7) = true := by simpa using c7
                  clear c7
                  by_cases c8 : n8 = m8
                  · have e8 : ((n8 : Int) == m8) = true := by simpa using c8
                    clear c8
                    by_cases c9 : n9 = m9
                    · have e9 : ((n9 : Int) == m9) = true := by simpa using c9
                      clear c9
                      by_cases c10 : n10 = m10
                      · have e10 : ((n10 : Int) == m10) = true := by simpa using c10
                        clear c10
                        by_cases c11 : n11 = m11
                        · have e11 : ((n11 : Bool) == m11) = true := by simpa using c11
                          clear c11
                          as_aux_lemma =>
                            go_wp2
                            go_ret
                            exact ⟨by rw [e3, e4, e5, e6, e7, e8, e9, e10, e11]; rfl, HB8.out⟩
                        · have e11 : ((n11 : Bool) == m11) = false := by simpa using c11
                          clear c11
                          as_aux_lemma =>
                            go_wp2
                            go_ret
                            exact ⟨by rw [e3, e4, e5, e6, e7, e8, e9, e10, e11]; rfl, HB8.out⟩
                      · have e10 : ((n10 : Int) == m10) = false := by simpa using c10
                        clear c10
                        as_aux_lemma =>
                          go_wp2
                          go_ret
                          exact ⟨by rw [e3, e4, e5, e6, e7, e8, e9, e10]; rfl, HB8.out⟩
                    · have e9 : ((n9 : Int) == m9) = false := by simpa using c9
                      clear c9
                      as_aux_lemma =>
                        go_wp2
                        go_ret
                        exact ⟨by rw [e3, e4, e5, e6, e7, e8, e9]; rfl, HB8.out⟩
                  · have e8 : ((n8 : Int) == m8) = false := by simpa using c8
                    clear c8
                    as_aux_lemma =>
                      go_wp2
                      go_ret
                      exact ⟨by rw [e3, e4, e5, e6, e7, e8]; rfl, HB8.out⟩
                · have e7 : ((n7 : Int) == m7) = false := by simpa using c7
                  clear c7
                  as_aux_lemma =>
                    go_wp2
                    go_ret
                    exact ⟨by rw [e3, e4, e5, e6, e7]; rfl, HB8.out⟩
              · have e6 : ((n6 : Int) == m6) = false := by simpa using c6
                clear c6
                as_aux_lemma =>
                  go_wp2
                  go_ret
                  exact ⟨by rw [e3, e4, e5, e6]; rfl, HB8.out⟩
            · have e5 : ((n5 : Bool) == m5) = false := by simpa using c5
              clear c5
              as_aux_lemma =>
                go_wp2
                go_ret
                exact ⟨by rw [e3, e4, e5]; rfl, HB8.out⟩
          · have e4 : ((n4 : Int) == m4) = false := by simpa using c4
            clear c4
            as_aux_lemma =>
              go_wp2
              go_ret
              exact ⟨by rw [e3, e4]; rfl, HB8.out⟩
        · have e3 : ((n3 : Int) == m3) = false := by simpa using c3
          clear c3
          as_aux_lemma =>
            go_wp2
            go_ret
            exact ⟨by rw [e3]; rfl, HB8.out⟩
    · have e1 : ((n1 : Int) == m1) = false := by simpa using c1
      clear c1 HCU hW HB2 HX1 HX2
      simp only [e0, e1, Bool.true_and, Bool.false_and]
      as_aux_lemma =>
        go_enter Try.func18, Try.ntmps18
        go_wp2
        go_ret
        exact ⟨rfl, blw_alloc (upd_box _) _⟩
  · have e0 : ((n0 : Int) == m0) = false := by simpa using c0
    clear c0 HCU hW HB2 HX1 HX2
    simp only [e0, Bool.false_and]
    as_aux_lemma =>
      go_enter Try.func18, Try.ntmps18
      go_wp2
      go_ret
      exact ⟨rfl, blw_alloc (upd_box _) _⟩
end Go.Proofs.Ytmaoimjfkncnpaa
