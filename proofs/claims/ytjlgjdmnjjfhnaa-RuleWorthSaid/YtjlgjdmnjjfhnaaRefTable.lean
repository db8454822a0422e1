/-
  The document's right policies and tables: recoupref05.RightPolicy, RightTable. Conditions: those of each theorem.
-/
import Derived.Test.YtjlgjdmnjjfhnaaPol
namespace Go.Proofs.Ytjlgjdmnjjfhnaa
open Go.RowKit
set_option maxRecDepth 100000

set_option maxHeartbeats 2000000 in
theorem ref_rightPolicy (p : Pol) (w : World) : Calls Try.prog 13 #[.agg p.arr] w fun e w' => e = .returned (.bool (rightP p)) ∧ Below w.heap.size w w' := by
  have hp := pol_new w p 27
  have HPA : Aside _ := hp
  have HB : Aside (Below w.heap.size w (w.alloc (.cells p.arr 27))) := (Below.refl _ _).alloc (Nat.le_refl _) _
  clear hp
  go_enter Try.func13, Try.ntmps13
  go_wp2
  generalize w.alloc (.cells p.arr 27) = w1 at *
  go_loopw [5] (fun i wr => ∃ k : Nat, k ≤ 4 ∧ i = .int .i64 k ∧ Aside (Below w1.heap.size w1 wr) ∧ Hid ((List.range k).all (fun k => ptB (p.fee k) && gradeB (p.share k) (p.dest k)) = true)) (fun i _ => 4 - (intOf i).toNat)
  case atStart => exact ⟨0, by omega, rfl, Below.refl _ _, rfl⟩
  case round =>
    obtain ⟨k, hk, rfl, HR, HK⟩ := hrel
    by_cases hlt : k < 4
    · have hlt' : (k : Int) < 4 := by omega
      have hq := HPA.out.grown HR.out
      have c1 := hq.fee k hlt
      have c2 := hq.share k hlt
      have c3 := hq.dest k hlt
      have hwl : w.heap.size < wr.heap.size := hq.lt
      clear hq
      obtain ⟨q, hq⟩ : ∃ q : Bool, (ptB (p.fee k) && gradeB (p.share k) (p.dest k)) = q := ⟨_, rfl⟩
      have HF : Hid (q = false → rightP p = false) := fun e => rightP_bad hlt (hq.trans e)
      have HT : Hid (q = true → ((List.range (k + 1)).all fun k => ptB (p.fee k) && gradeB (p.share k) (p.dest k)) = true) := fun e => all_next HK.out (hq.trans e)
      have HQ := Lib.hid hq
      clear hq
      generalize p.fee k = f at *
      generalize p.share k = s at *
      generalize p.dest k = t at *
      go_upto_region 5 with (fail)
      have hz : wr.heap.size < (wr.alloc (.cells #[.int .i64 s, .int .i64 t] 24)).heap.size := by simp
      have g1 : (wr.alloc (.cells #[.int .i64 s, .int .i64 t] 24)).cell? ⟨wr.heap.size, 0, none⟩ = some (.int .i64 s) := by simp
      have g2 : (wr.alloc (.cells #[.int .i64 s, .int .i64 t] 24)).cell? ⟨wr.heap.size, 1, none⟩ = some (.int .i64 t) := by simp
      have c4 : (wr.alloc (.cells #[.int .i64 s, .int .i64 t] 24)).cell? ⟨w.heap.size, 4 + k, none⟩ = some (.int .i64 f) := (World.cell?_alloc_lt _ _ _ hwl).trans c1
      have HR2 : Aside (Below w1.heap.size w1 (wr.alloc (.cells #[.int .i64 s, .int .i64 t] 24))) := HR.out.alloc HR.out.size _
      clear c1 c2 c3 HR
      generalize wr.alloc (.cells #[.int .i64 s, .int .i64 t] 24) = w5 at *
      go_cut [53] (fun s53 wx => s53 = .bool (!q) ∧ w5 = wx)
      case first =>
        as_aux_lemma =>
          cases k1 : ptB f with
          | false =>
            obtain rfl : q = false := by rw [← HQ.out]; simp [k1]
            go_wp2_with fail
            refine (ref_points _ _).mono ?_
            rintro e w9 ⟨rfl, rfl⟩
            rw [k1]
            go_wp2_with fail
            go_meet
            exact ⟨rfl, rfl⟩
          | true =>
            cases k2 : ptB s with
            | false =>
              obtain rfl : q = false := by rw [← HQ.out]; simp [k1, k2, gradeB]
              go_wp2_with fail
              refine (ref_points _ _).mono ?_
              rintro e w9 ⟨rfl, rfl⟩
              rw [k1]
              go_wp2_with fail
              refine (ref_points _ _).mono ?_
              rintro e w9 ⟨rfl, rfl⟩
              rw [k2]
              go_wp2_with fail
              go_meet
              exact ⟨rfl, rfl⟩
            | true =>
              by_cases t0 : t = 0
              · subst t0
                by_cases s0 : s = 0
                · subst s0
                  obtain rfl : q = true := by rw [← HQ.out]; simp [k1, k2, gradeB]
                  go_wp2_with fail
                  refine (ref_points _ _).mono ?_
                  rintro e w9 ⟨rfl, rfl⟩
                  rw [k1]
                  go_wp2_with fail
                  refine (ref_points _ _).mono ?_
                  rintro e w9 ⟨rfl, rfl⟩
                  rw [k2]
                  go_wp2_with fail
                  go_meet
                  exact ⟨rfl, rfl⟩
                · have s0' : (s != 0) = true := by simpa using s0
                  obtain rfl : q = false := by rw [← HQ.out]; simp [k1, k2, gradeB, s0]
                  go_wp2_with fail
                  refine (ref_points _ _).mono ?_
                  rintro e w9 ⟨rfl, rfl⟩
                  rw [k1]
                  go_wp2_with fail
                  refine (ref_points _ _).mono ?_
                  rintro e w9 ⟨rfl, rfl⟩
                  rw [k2]
                  go_wp2_with fail
                  go_meet
                  exact ⟨rfl, rfl⟩
              · by_cases t3 : t = 3
                · subst t3
                  obtain rfl : q = true := by rw [← HQ.out]; simp [k1, k2, gradeB]
                  go_wp2_with fail
                  refine (ref_points _ _).mono ?_
                  rintro e w9 ⟨rfl, rfl⟩
                  rw [k1]
                  go_wp2_with fail
                  refine (ref_points _ _).mono ?_
                  rintro e w9 ⟨rfl, rfl⟩
                  rw [k2]
                  go_wp2_with fail
                  go_meet
                  exact ⟨rfl, rfl⟩
                · by_cases t4 : t = 4
                  · subst t4
                    obtain rfl : q = true := by rw [← HQ.out]; simp [k1, k2, gradeB]
                    go_wp2_with fail
                    refine (ref_points _ _).mono ?_
                    rintro e w9 ⟨rfl, rfl⟩
                    rw [k1]
                    go_wp2_with fail
                    refine (ref_points _ _).mono ?_
                    rintro e w9 ⟨rfl, rfl⟩
                    rw [k2]
                    go_wp2_with fail
                    go_meet
                    exact ⟨rfl, rfl⟩
                  · by_cases t5 : t = 5
                    · subst t5
                      obtain rfl : q = true := by rw [← HQ.out]; simp [k1, k2, gradeB]
                      go_wp2_with fail
                      refine (ref_points _ _).mono ?_
                      rintro e w9 ⟨rfl, rfl⟩
                      rw [k1]
                      go_wp2_with fail
                      refine (ref_points _ _).mono ?_
                      rintro e w9 ⟨rfl, rfl⟩
                      rw [k2]
                      go_wp2_with fail
                      go_meet
                      exact ⟨rfl, rfl⟩
                    · have u0 : (t == 0) = false := by simpa using t0
                      have u3 : (t == 3) = false := by simpa using t3
                      have u4 : (t == 4) = false := by simpa using t4
                      have u5 : (t == 5) = false := by simpa using t5
                      obtain rfl : q = false := by rw [← HQ.out]; simp [k1, k2, gradeB, t0, t3, t4, t5]
                      go_wp2_with fail
                      refine (ref_points _ _).mono ?_
                      rintro e w9 ⟨rfl, rfl⟩
                      rw [k1]
                      go_wp2_with fail
                      refine (ref_points _ _).mono ?_
                      rintro e w9 ⟨rfl, rfl⟩
                      rw [k2]
                      go_wp2_with fail
                      go_meet
                      exact ⟨rfl, rfl⟩
      case rest =>
        obtain ⟨rfl, rfl⟩ := hcut
        clear g1 g2 c4
        cases q with
        | false =>
          have hf := Lib.hid (HF.out rfl)
          go_wp2
          go_ret
          exact ⟨by rw [hf.out]; rfl, HB.out.trans (HR2.out.mono HB.out.size)⟩
        | true =>
          go_wp2
          go_roundw
          case rel => exact ⟨k + 1, by omega, by go_num, HR2.out, HT.out rfl⟩
          case measure => simp [intOf]; omega
    · obtain rfl : k = 4 := by omega
      have hq := HPA.out.grown HR.out
      have c0 := hq.win
      have hE : Aside (Below w.heap.size w wr) := HB.out.trans (HR.out.mono HB.out.size)
      have hw := Lib.hid (show rightP p = decide (0 ≤ p.win ∧ p.win ≤ 1000) by unfold rightP; rw [HK.out, Bool.true_and])
      clear hq
      generalize p.win = v at *
      by_cases v1 : 0 ≤ v
      · by_cases v2 : v ≤ 1000
        · have hd := Lib.hid (decide_eq_true (p := 0 ≤ v ∧ v ≤ 1000) ⟨v1, v2⟩)
          go_wp2
          go_ret
          exact ⟨by rw [hw.out, hd.out]; rfl, hE.out⟩
        · have hd := Lib.hid (decide_eq_false (p := 0 ≤ v ∧ v ≤ 1000) (fun x => v2 x.2))
          go_wp2
          go_ret
          exact ⟨by rw [hw.out, hd.out]; rfl, hE.out⟩
      · have hd := Lib.hid (decide_eq_false (p := 0 ≤ v ∧ v ≤ 1000) (fun x => v1 x.1))
        go_wp2
        go_ret
        exact ⟨by rw [hw.out, hd.out]; rfl, hE.out⟩

/-- A row of policies. -/
def PolsAt (w : World) (a : Option Addr) (ps : List Pol) : Prop :=
  ps = [] ∨ ∃ b off, a = some ⟨b, off, none⟩ ∧ b < w.heap.size ∧ ∀ i (h : i < ps.length), PolAt w b (off + i * 16) ps[i]
theorem PolsAt.below {w w' : World} {a : Option Addr} {ps : List Pol} (h : PolsAt w a ps) (k : Below w.heap.size w w') : PolsAt w' a ps := by
  rcases h with h | ⟨b, off, h1, h2, h3⟩
  · exact .inl h
  · exact .inr ⟨b, off, h1, Nat.lt_of_lt_of_le h2 k.size, fun i hi => (h3 i hi).grown k⟩
theorem info_pol : (Try.prog.info? 27).map (·.size) = some 16 := by kernel_rfl

end Go.Proofs.Ytjlgjdmnjjfhnaa
