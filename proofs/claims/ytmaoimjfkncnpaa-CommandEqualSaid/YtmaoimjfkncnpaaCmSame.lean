/-
  The law's Same. Conditions: those of each theorem.
-/
import Derived.Test.YtmaoimjfkncnpaaCmEq
import Derived.Deep.RegionHeld3
import Derived.Deep.DeepCutAuto
namespace Go.Proofs.Ytmaoimjfkncnpaa
open Go.RowKit
set_option maxRecDepth 100000
theorem set2z {w : World} {g : Nat} {t : TypeId} {r : Com} (h : ComBox w g t r) : ComBox (w.setCell ⟨g, 2, none⟩ (.slice none 0 0)) g t { r with uA := none, uN := 0, uC := 0 } := by
  have g0 := setCell_heap_at (o := 2) (u := .slice none 0 0) h.at'
  exact ⟨by simpa using g0⟩
theorem sameB_eq (r s : Com) (us vs : List Int) : sameB r s us vs = (eqInts us vs && ((r.kind == s.kind) && ((r.ord == s.ord) && ((r.rea == s.rea) && ((r.want == s.want) && ((r.cred == s.cred) && ((r.rma == s.rma) && ((r.unit == s.unit) && ((r.grd == s.grd) && ((r.days == s.days) && ((r.key == s.key) && ((r.yes == s.yes))))))))))))) := by
  unfold sameB
  rw [Bool.and_left_comm (r.ord == s.ord), Bool.and_left_comm (r.kind == s.kind)]

set_option maxHeartbeats 16000000 in
theorem law_same (r s : Com) (us vs : List Int) (w : World) (h1 : LiAt w r.uA r.uN r.uC us) (h2 : LiAt w s.uA s.uN s.uC vs) (hu1 : r.uN ≤ 100000) (hu2 : s.uN ≤ 100000) :
    Calls Try.prog 16 #[.agg #[.int .i64 r.kind, .int .i64 r.ord, .slice r.uA r.uN r.uC, .int .i64 r.rea, .int .i64 r.want, .bool r.cred, .int .i64 r.rma, .int .i64 r.unit, .int .i64 r.grd, .int .i64 r.days, .int .i64 r.key, .bool r.yes], .agg #[.int .i64 s.kind, .int .i64 s.ord, .slice s.uA s.uN s.uC, .int .i64 s.rea, .int .i64 s.want, .bool s.cred, .int .i64 s.rma, .int .i64 s.unit, .int .i64 s.grd, .int .i64 s.days, .int .i64 s.key, .bool s.yes]] w fun e w' => e = .returned (.bool (sameB r s us vs)) ∧ Below w.heap.size w w' := by
  rw [sameB_eq]
  obtain ⟨n0, n1, uA, uN, uC, n3, n4, n5, n6, n7, n8, n9, n10, n11⟩ := r
  obtain ⟨m0, m1, xA, xN, xC, m3, m4, m5, m6, m7, m8, m9, m10, m11⟩ := s
  dsimp only at *
  have HCU : Aside (∀ X, Below w.heap.size w X → Calls Try.prog 31 #[.slice uA uN uC, .slice xA xN xC] X fun e w' => e = .returned (.bool (eqInts us vs)) ∧ Below w.heap.size w w' ∧ Below X.heap.size X w') := fun X hX => by
    refine (law_ints uA xA us vs uN xN uC xC X (h1.below hX).len (h2.below hX).len (h1.below hX).at' (h2.below hX).at' hu1 hu2).mono ?_
    rintro e w' ⟨rfl, hb⟩
    exact ⟨rfl, hX.trans (hb.mono hX.size), hb⟩
  clear h1 h2 hu1 hu2
  obtain ⟨W, hW, hs2, hb2, X1, X2⟩ := two_boxes w 24 24 ⟨n0, n1, uA, uN, uC, n3, n4, n5, n6, n7, n8, n9, n10, n11⟩ ⟨m0, m1, xA, xN, xC, m3, m4, m5, m6, m7, m8, m9, m10, m11⟩
  dsimp only at hW
  have HB2 : Aside (Below w.heap.size w W) := hb2
  have HX1 : Aside _ := X1
  have HX2 : Aside _ := X2
  clear X1 X2 hb2 hs2
  generalize eqInts us vs = qu at *
  go_enter Try.func16, Try.ntmps16
  go_upto_region 1 with (fail)
  rw [← hW]
  clear hW
  obtain ⟨g2, hg2⟩ : ∃ g, g = w.heap.size + 1 := ⟨_, rfl⟩
  rw [← hg2] at HX2 ⊢
  obtain ⟨g1, hg1⟩ : ∃ g, g = w.heap.size := ⟨_, rfl⟩
  rw [← hg1] at HX1 ⊢
  clear hg1 hg2
  go_cut [5, 6] (fun s5 s6 wx => ∃ g5 g6, s5 = .pointer (some ⟨g5, 0, none⟩) ∧ s6 = .pointer (some ⟨g6, 0, none⟩) ∧ Aside (ComBox wx g5 24 ⟨n0, n1, uA, uN, uC, n3, n4, n5, n6, n7, n8, n9, n10, n11⟩) ∧ Aside (ComBox wx g6 24 ⟨m0, m1, xA, xN, xC, m3, m4, m5, m6, m7, m8, m9, m10, m11⟩) ∧ Hid (g5 ≠ g6 ∧ W.heap.size ≤ g5 ∧ W.heap.size ≤ g6) ∧ Aside (Below W.heap.size W wx))
  case first =>
    as_aux_lemma =>
      obtain ⟨y0, y1, y2, y3, y4, y5, y6, y7, y8, y9, y10, y11⟩ := HX1.out.cells
      obtain ⟨z0, z1, z2, z3, z4, z5, z6, z7, z8, z9, z10, z11⟩ := HX2.out.cells
      have hl1 := HX1.out.lt
      have hl2 := HX2.out.lt
      have b0 := Below.refl W.heap.size W
      go_region_held3 (fun w' => (∀ o, w'.cell? ⟨g1, o, none⟩ = W.cell? ⟨g1, o, none⟩) ∧ (∀ o, w'.cell? ⟨g2, o, none⟩ = W.cell? ⟨g2, o, none⟩))
        (refine ⟨fun o => Below.cell (p := ⟨g1, o, none⟩) ?_ hl1, fun o => Below.cell (p := ⟨g2, o, none⟩) ?_ hl2⟩ <;> (with_reducible (repeat (first | assumption | refine Below.drew ?_ | refine blw_alloc ?_ _))))
        (fail)
      all_goals
        go_wp2_with fail
        go_meet
        first
          | (have t := two_boxes W 24 24 ⟨n0, n1, uA, uN, uC, n3, n4, n5, n6, n7, n8, n9, n10, n11⟩ ⟨m0, m1, xA, xN, xC, m3, m4, m5, m6, m7, m8, m9, m10, m11⟩
             obtain ⟨V, hV, t1, t2, t3, t4⟩ := t
             dsimp only at hV
             rw [← hV]
             exact ⟨_, _, rfl, rfl, t3.below (Below.refl _ _).drew, t4.below (Below.refl _ _).drew, ⟨by omega, by omega, by omega⟩, t2.drew⟩)
          | (have t := two_boxes W 24 24 ⟨m0, m1, xA, xN, xC, m3, m4, m5, m6, m7, m8, m9, m10, m11⟩ ⟨n0, n1, uA, uN, uC, n3, n4, n5, n6, n7, n8, n9, n10, n11⟩
             obtain ⟨V, hV, t1, t2, t3, t4⟩ := t
             dsimp only at hV
             rw [← hV]
             exact ⟨_, _, rfl, rfl, t4.below (Below.refl _ _).drew, t3.below (Below.refl _ _).drew, ⟨by omega, by omega, by omega⟩, t2.drew⟩)
  case rest =>
    obtain ⟨g5, g6, rfl, rfl, HX5, HX6, HG, HBC⟩ := hcut
    have HB3 : Aside (Below w.heap.size w wc) := HB2.out.trans (HBC.out.mono HB2.out.size)
    have HX1c : Aside _ := HX1.out.below HBC.out
    have HX2c : Aside _ := HX2.out.below HBC.out
    have HG1 : Hid (g1 ≠ g5 ∧ g1 ≠ g6 ∧ g2 ≠ g5 ∧ g2 ≠ g6 ∧ w.heap.size ≤ g5 ∧ w.heap.size ≤ g6 ∧ w.heap.size ≤ wc.heap.size) := ⟨by have := HX1.out.lt; have := HG.out; omega, by have := HX1.out.lt; have := HG.out; omega, by have := HX2.out.lt; have := HG.out; omega, by have := HX2.out.lt; have := HG.out; omega, by have := HB2.out.size; have := HG.out; omega, by have := HB2.out.size; have := HG.out; omega, HB3.out.size⟩
    -- what the two stores leave
    have X5 : ComBox (wc.setCell ⟨g5, 2, none⟩ (.slice none 0 0)) g5 24 ⟨n0, n1, none, 0, 0, n3, n4, n5, n6, n7, n8, n9, n10, n11⟩ := set2z HX5.out
    have u5 : Upd (fun k => k = g5) wc (wc.setCell ⟨g5, 2, none⟩ (.slice none 0 0)) := upd_set _ _
    have X6 : ComBox ((wc.setCell ⟨g5, 2, none⟩ (.slice none 0 0)).setCell ⟨g6, 2, none⟩ (.slice none 0 0)) g6 24 ⟨m0, m1, none, 0, 0, m3, m4, m5, m6, m7, m8, m9, m10, m11⟩ := set2z (HX6.out.upd u5 (fun e => HG.out.1 e.symm))
    have u6 : Upd (fun k => k = g6) (wc.setCell ⟨g5, 2, none⟩ (.slice none 0 0)) ((wc.setCell ⟨g5, 2, none⟩ (.slice none 0 0)).setCell ⟨g6, 2, none⟩ (.slice none 0 0)) := upd_set _ _
    have X5 := X5.upd u6 HG.out.1
    have HB5 : Aside (Below w.heap.size w ((wc.setCell ⟨g5, 2, none⟩ (.slice none 0 0)).setCell ⟨g6, 2, none⟩ (.slice none 0 0))) := (HB3.out.trans (u5.toBelow HG1.out.2.2.2.2.2.2 (fun k hk e => by have := HG1.out; omega))).trans (u6.toBelow (by simpa using HG1.out.2.2.2.2.2.2) (fun k hk e => by have := HG1.out; omega))
    have XA : ComBox ((wc.setCell ⟨g5, 2, none⟩ (.slice none 0 0)).setCell ⟨g6, 2, none⟩ (.slice none 0 0)) g1 24 ⟨n0, n1, uA, uN, uC, n3, n4, n5, n6, n7, n8, n9, n10, n11⟩ := (HX1c.out.upd u5 HG1.out.1).upd u6 HG1.out.2.1
    have XB : ComBox ((wc.setCell ⟨g5, 2, none⟩ (.slice none 0 0)).setCell ⟨g6, 2, none⟩ (.slice none 0 0)) g2 24 ⟨m0, m1, xA, xN, xC, m3, m4, m5, m6, m7, m8, m9, m10, m11⟩ := (HX2c.out.upd u5 HG1.out.2.2.1).upd u6 HG1.out.2.2.2.1
    have HX51 : Aside _ := X5
    have HX61 : Aside _ := X6
    have HXA : Aside _ := XA
    have HXB : Aside _ := XB
    obtain ⟨p0, p1, p2, p3, p4, p5, p6, p7, p8, p9, p10, p11⟩ := HX5.out.cells
    obtain ⟨q0, q1, q2, q3, q4, q5, q6, q7, q8, q9, q10, q11⟩ := (HX6.out.upd u5 (fun e => HG.out.1 e.symm)).cells
    have pf := HX5.out.fz
    have qf := (HX6.out.upd u5 (fun e => HG.out.1 e.symm)).fz
    obtain ⟨-, -, r2, -⟩ := XA.cells
    obtain ⟨-, -, t2, -⟩ := XB.cells
    clear X5 X6 u5 u6 XA XB HX1 HX2 HX1c HX2c HX5 HX6 HB2 HB3 HBC HG HXA HXB
    go_wp2_with fail
    refine Calls.mono (HCU.out _ HB5.out) ?_
    rintro e w8 ⟨rfl, b8, l8⟩
    have HB8 : Aside _ := b8
    have HX5 : Aside _ := HX51.out.below l8
    have HX6 : Aside _ := HX61.out.below l8
    clear b8 l8 HCU HB5 HX51 HX61 p0 p1 p2 p3 p4 p5 p6 p7 p8 p9 p10 p11 q0 q1 q2 q3 q4 q5 q6 q7 q8 q9 q10 q11 pf qf r2 t2
    obtain ⟨y0, y1, -, y3, y4, y5, y6, y7, y8, y9, y10, y11⟩ := HX5.out.cells
    obtain ⟨z0, z1, -, z3, z4, z5, z6, z7, z8, z9, z10, z11⟩ := HX6.out.cells
    dsimp only at y0 y1 y3 y4 y5 y6 y7 y8 y9 y10 y11 z0 z1 z3 z4 z5 z6 z7 z8 z9 z10 z11
    clear HX5 HX6 HG1
    dsimp only
    cases qu with
    | false =>
      as_aux_lemma =>
        go_wp2
        go_ret
        exact ⟨rfl, HB8.out⟩
    | true =>
      by_cases c0 : n0 = m0
      · have e0 : ((n0 : Int) == m0) = true := by simpa using c0
        clear c0
        by_cases c1 : n1 = m1
        · have e1 : ((n1 : Int) == m1) = true := by simpa using c1
          clear c1
          by_cases c3 : n3 = m3
          · have e3 : ((n3 : Int) == m3) = true := by simpa using c3
            clear c3
            by_cases c4 : n4 = m4
            · have e4 : ((n4 : Int) == m4) = true := by simpa using c4
              clear c4
              by_cases c5 : n5 = m5
              · have e5 : ((n5 : Bool) == m5) = true := by simpa using c5
                clear c5
                by_cases c6 : n6 = m6
                · have e6 : ((n6 : Int) == m6) = true := by simpa using c6
                  clear c6
                  by_cases c7 : n7 = m7
                  · have e7 : ((n7 : Int) == m7) = true := by simpa using c7
                    clear c7
                    by_cases c8 : n8 = m8
                    · have e8 : ((n8 : Int) == m8) = true := by simpa using c8
                      clear c8
                      by_cases c9 : n9 = m9
                      · have e9 : ((n9 : Int) == m9) = true := by simpa using c9
                        clear c9
                        by_cases c10 : n10 = m10
                        · have e10 : ((n10 : Int) == m10) = true := by simpa using c10
                          clear c10
                          by_cases c11 : n11 = m11
                          · have e11 : ((n11 : Bool) == m11) = true := by simpa using c11
                            clear c11
                            as_aux_lemma =>
                              go_wp2
                              go_ret
                              exact ⟨by rw [e0, e1, e3, e4, e5, e6, e7, e8, e9, e10, e11]; rfl, HB8.out⟩
                          · have e11 : ((n11 : Bool) == m11) = false := by simpa using c11
                            clear c11
                            as_aux_lemma =>
                              go_wp2
                              go_ret
                              exact ⟨by rw [e0, e1, e3, e4, e5, e6, e7, e8, e9, e10, e11]; rfl, HB8.out⟩
                        · have e10 : ((n10 : Int) == m10) = false := by simpa using c10
                          clear c10
                          as_aux_lemma =>
                            go_wp2
                            go_ret
                            exact ⟨by rw [e0, e1, e3, e4, e5, e6, e7, e8, e9, e10]; rfl, HB8.out⟩
                      · have e9 : ((n9 : Int) == m9) = false := by simpa using c9
                        clear c9
                        as_aux_lemma =>
                          go_wp2
                          go_ret
                          exact ⟨by rw [e0, e1, e3, e4, e5, e6, e7, e8, e9]; rfl, HB8.out⟩
                    · have e8 : ((n8 : Int) == m8) = false := by simpa using c8
                      clear c8
                      as_aux_lemma =>
                        go_wp2
                        go_ret
                        exact ⟨by rw [e0, e1, e3, e4, e5, e6, e7, e8]; rfl, HB8.out⟩
                  · have e7 : ((n7 : Int) == m7) = false := by simpa using c7
                    clear c7
                    as_aux_lemma =>
                      go_wp2
                      go_ret
                      exact ⟨by rw [e0, e1, e3, e4, e5, e6, e7]; rfl, HB8.out⟩
                · have e6 : ((n6 : Int) == m6) = false := by simpa using c6
                  clear c6
                  as_aux_lemma =>
                    go_wp2
                    go_ret
                    exact ⟨by rw [e0, e1, e3, e4, e5, e6]; rfl, HB8.out⟩
              · have e5 : ((n5 : Bool) == m5) = false := by simpa using c5
                clear c5
                as_aux_lemma =>
                  go_wp2
                  go_ret
                  exact ⟨by rw [e0, e1, e3, e4, e5]; rfl, HB8.out⟩
            · have e4 : ((n4 : Int) == m4) = false := by simpa using c4
              clear c4
              as_aux_lemma =>
                go_wp2
                go_ret
                exact ⟨by rw [e0, e1, e3, e4]; rfl, HB8.out⟩
          · have e3 : ((n3 : Int) == m3) = false := by simpa using c3
            clear c3
            as_aux_lemma =>
              go_wp2
              go_ret
              exact ⟨by rw [e0, e1, e3]; rfl, HB8.out⟩
        · have e1 : ((n1 : Int) == m1) = false := by simpa using c1
          clear c1
          as_aux_lemma =>
            go_wp2
            go_ret
            exact ⟨by rw [e0, e1]; rfl, HB8.out⟩
      · have e0 : ((n0 : Int) == m0) = false := by simpa using c0
        clear c0
        as_aux_lemma =>
          go_wp2
          go_ret
          exact ⟨by rw [e0]; rfl, HB8.out⟩
end Go.Proofs.Ytmaoimjfkncnpaa
