/-
  LedgerPosts: whatever is posted, one behind the other, on whatever the accounts have: they have what the document says, or it is refused. No conditions: every input.
-/
import Derived.Test.YtaboaljpnacnfaaLedgerSums
import Derived.Test.YtaboaljpnacnfaaPurseRight
import Derived.Test.YtaboaljpnacnfaaOwn
import Derived.Deep.RegionHeld3
import Derived.Deep.DeepCutAuto
import Derived.StillTailTactics
namespace Go.Proofs.Ytaboaljpnacnfaa
open Go.RowKit Go.WideShapes
set_option maxRecDepth 100000

theorem right_q (a : Int) (b : Bool) (h : Rt a = b) (w : World) : Calls Try.prog 9 #[.int .i64 a] w fun e w' => e = .returned (.bool b) ∧ w' = w :=
  (ref_right a w).mono fun _ _ k => ⟨by rw [k.1, h], k.2.symm⟩

set_option maxHeartbeats 4000000 in
theorem posts_law (g : Nat → Int) (a : Option Addr) (n c : Nat) (ps : List (Int × Int × Int)) (hn : ps.length = n) (w : World) (hp : PostsAt w a ps) (hm : n ≤ maxLen) : Calls Try.prog 3 #[.agg (five g), .slice a n c] w fun e w' => e = .returned (.bool true) ∧ Below w.heap.size w w' := by
  unfold maxLen at hm
  by_cases hf : n ≤ 100
  · have hf' : ¬ 100 < (n : Int) := by omega
    have HN := Lib.hid hn
    clear hn
    go_enter Try.func3, Try.ntmps3
    go_wp2_with fail
    refine (ledger_awake _).mono ?_
    rintro e w1 ⟨rfl, b1⟩
    have q1 := (five_new w g 22).below b1 (by simp)
    have b0 : Below w.heap.size w w1 := ((Below.refl _ _).alloc (Nat.le_refl _) _).trans (b1.mono (by simp))
    have q3 := b0.size
    clear b1
    obtain ⟨l1, f1, c0, c1, c2, c3, c4⟩ := q1
    go_wp2
    have QH : Aside (FiveAt (w1.alloc (.cells (five g) 26)) w.heap.size g) := (FiveAt.mk l1 f1 c0 c1 c2 c3 c4).alloc _
    have QL : Aside (FiveAt (w1.alloc (.cells (five g) 26)) w1.heap.size g) := five_new w1 g _
    have HB : Aside (Below w.heap.size w (w1.alloc (.cells (five g) 26))) := b0.alloc b0.size _
    have HL : Hid (w.heap.size < w1.heap.size) := by have := l1; exact this
    clear l1 f1 c0 c1 c2 c3 c4 b0 q3
    go_loopw [23] (fun i wr => ∃ (k : Nat) (x : Nat → Int), k ≤ n ∧ i = .int .i64 k ∧ Aside (FiveAt wr w.heap.size x) ∧ Aside (FiveAt wr w1.heap.size x) ∧ Aside (Below w.heap.size w wr)) (fun i _ => n - (intOf i).toNat)
    case atStart => exact ⟨0, g, Nat.zero_le _, rfl, QH, QL, HB⟩
    case round =>
      obtain ⟨k, x, hk, rfl, HH, HX, HB⟩ := hrel
      by_cases hlt : k < n
      · have hkn : (k : Int) < (n : Int) := by omega
        rcases hp with rfl | ⟨b, off, rfl, hb, hc⟩
        · have := HN.out; simp at this; omega
        have hlk : k < ps.length := by rw [HN.out]; exact hlt
        obtain ⟨e1, e2, e3⟩ := hc k hlk
        rw [← HB.out.cell (p := ⟨b, _, none⟩) hb] at e1 e2 e3
        clear hc
        generalize ps[k] = p at *
        obtain ⟨f, t, s⟩ := p
        simp only at e1 e2 e3
        obtain ⟨l1, f1, c0, c1, c2, c3, c4⟩ := HX.out
        obtain ⟨E, hE⟩ : ∃ E, postE x f t s = E := ⟨_, rfl⟩
        obtain ⟨y, hy⟩ : ∃ y, postL x f t s = y := ⟨_, rfl⟩
        have hw1 : w1.heap.size < wr.heap.size := l1
        have hbr : b < wr.heap.size := Nat.lt_of_lt_of_le hb HB.out.size
        have b0 := Below.refl wr.heap.size wr
        have hP := fun W => ledger_post x f t s W
        rw [hE, hy] at hP
        unfold five at hP
        have HP : Aside _ := hP
        clear hP
        go_wp2_with fail
        refine (HP.out _).mono ?_
        rintro e w3 ⟨rfl, b3⟩
        have qP : PostAt (w3.alloc (Obj.cells #[.int .i64 (y 0), .int .i64 (y 1), .int .i64 (y 2), .int .i64 (y 3), .int .i64 (y 4)] 26)) wr.heap.size f t s := ((post_new wr f t s 28).below b3 (by simp)).alloc _
        have qH : FiveAt (w3.alloc (Obj.cells #[.int .i64 (y 0), .int .i64 (y 1), .int .i64 (y 2), .int .i64 (y 3), .int .i64 (y 4)] 26)) w.heap.size x := ((HH.out.alloc (.cells (posting f t s) 28)).below b3 (by have := HH.out.lt; simp; omega)).alloc _
        have qL : FiveAt (w3.alloc (Obj.cells #[.int .i64 (y 0), .int .i64 (y 1), .int .i64 (y 2), .int .i64 (y 3), .int .i64 (y 4)] 26)) w1.heap.size x := ((HX.out.alloc (.cells (posting f t s) 28)).below b3 (by simp; omega)).alloc _
        have qN : FiveAt (w3.alloc (Obj.cells #[.int .i64 (y 0), .int .i64 (y 1), .int .i64 (y 2), .int .i64 (y 3), .int .i64 (y 4)] 26)) w3.heap.size y := five_new w3 y 26
        have bA := below_box HB.out b3
        have bA : Below w.heap.size w (w3.alloc (Obj.cells #[.int .i64 (y 0), .int .i64 (y 1), .int .i64 (y 2), .int .i64 (y 3), .int .i64 (y 4)] 26)) := bA.alloc bA.size _
        have hN : Hid (wr.heap.size < w3.heap.size) := by have := b3.size; simp at this; show _ < _; omega
        have hwr : Hid (w1.heap.size < wr.heap.size) := hw1
        have HE := Lib.hid hE
        have HYY := Lib.hid hy
        clear l1 f1 c0 c1 c2 c3 c4 e1 e2 e3 b0 b3 hE hy hw1 hbr HH HX HB HP
        go_upto_region 9 with (fail)
        generalize (w3.alloc (Obj.cells #[.int .i64 (y 0), .int .i64 (y 1), .int .i64 (y 2), .int .i64 (y 3), .int .i64 (y 4)] 26)) = w4 at *
        have QH : Aside (FiveAt w4 w.heap.size x) := qH
        have QL : Aside (FiveAt w4 w1.heap.size x) := qL
        have QN : Aside (FiveAt w4 w3.heap.size y) := qN
        have QP : Aside (PostAt w4 wr.heap.size f t s) := qP
        have BA : Aside (Below w.heap.size w w4) := bA
        clear qH qL qN qP bA
        obtain ⟨q, hq⟩ : ∃ q : Bool, goodArgs f t s = q := ⟨_, rfl⟩
        have HQ := Lib.hid hq
        clear hq
        go_cut [70] (fun s70 wx => s70 = .bool (!q) ∧ w4 = wx)
        case first =>
          as_aux_lemma =>
            obtain ⟨_, p0, p1, p2⟩ := QP.out
            by_cases k1 : f < 0
            · obtain rfl : q = false := by rw [← HQ.out]; simp [goodArgs]; omega
              go_wp2_with fail
              go_meet
              exact ⟨rfl, rfl⟩
            · by_cases k2 : 4 < f
              · obtain rfl : q = false := by rw [← HQ.out]; simp [goodArgs]; omega
                go_wp2_with fail
                go_meet
                exact ⟨rfl, rfl⟩
              · by_cases k3 : t < 0
                · obtain rfl : q = false := by rw [← HQ.out]; simp [goodArgs]; omega
                  go_wp2_with fail
                  go_meet
                  exact ⟨rfl, rfl⟩
                · by_cases k4 : 4 < t
                  · obtain rfl : q = false := by rw [← HQ.out]; simp [goodArgs]; omega
                    go_wp2_with fail
                    go_meet
                    exact ⟨rfl, rfl⟩
                  · by_cases k5 : f = t
                    · obtain rfl : q = false := by rw [← HQ.out]; simp [goodArgs]; omega
                      have k5' : (f == t) = true := by simpa using k5
                      have K5 := Lib.hid k5
                      clear k5
                      go_wp2_with fail
                      go_meet
                      exact ⟨rfl, rfl⟩
                    · have k5' : (f == t) = false := by simpa using k5
                      by_cases k6 : s < 0
                      · obtain rfl : q = false := by rw [← HQ.out]; simp [goodArgs]; omega
                        go_wp2_with fail
                        go_meet
                        exact ⟨rfl, rfl⟩
                      · obtain rfl : q = true := by rw [← HQ.out]; simp [goodArgs]; omega
                        go_wp2_with fail
                        go_meet
                        exact ⟨rfl, rfl⟩
        case rest =>
          obtain ⟨rfl, rfl⟩ := hcut
          cases q with
          | false =>
            obtain rfl : E = 1 := by
              rw [← HE.out]
              unfold postE
              rw [HQ.out, if_neg (by decide)]
            obtain rfl : y = fun _ => 0 := by
              rw [← HYY.out, postL_no (by rw [HE.out]; decide)]
            obtain ⟨_, _, c0, c1, c2, c3, c4⟩ := QN.out
            have hz := run_equal_five 9997 (fun _ => 0) (fun _ => 0)
            rw [same5_self] at hz
            unfold five at hz
            go_wp2
            go_roundw
            case rel => exact ⟨k + 1, x, hlt, by go_num, QH.out, QL.out, BA.out⟩
            case measure => simp [intOf]; omega
          | true =>
            have hgd := goodArgs_iff.1 HQ.out
            obtain ⟨F, rfl⟩ := Int.eq_ofNat_of_zero_le hgd.1
            obtain ⟨T, rfl⟩ := Int.eq_ofNat_of_zero_le hgd.2.2.1
            have F5 : F < 5 := by omega
            have T5 : T < 5 := by omega
            have FT : F ≠ T := by omega
            have F5' : (F : Int) < 5 := by omega
            have T5' : (T : Int) < 5 := by omega
            have S0 : 0 ≤ s := by omega
            clear hgd
            obtain ⟨r, hr⟩ : ∃ r : Bool, (Rt (x F) && Rt s && Rt (x F - s) && (Rt (x T) && Rt s && Rt (x T + s))) = r := ⟨_, rfl⟩
            have HR := Lib.hid hr
            clear hr
            obtain ⟨_, _, n0, n1, n2, n3, n4⟩ := QN.out
            have hcF := QH.out.get F F5
            have hcT := QH.out.get T T5
            obtain ⟨_, p0, p1, p2⟩ := QP.out
            go_upto_region 12 with (fail)
            go_cut [119] (fun s119 wx => s119 = .bool (!r) ∧ ∃ nq, w4.drewN nq = wx)
            case first =>
              as_aux_lemma =>
                clear n0 n1 n2 n3 n4
                cases k1 : Rt s with
                | false =>
                  obtain rfl : r = false := by rw [← HR.out]; simp [k1]
                  go_quiet ((go_at_call 9; exact Calls.quiet_of_same (right_q _ _ (by assumption) _)))
                  go_wp2_with fail
                  go_meet
                  exact ⟨rfl, _, rfl⟩
                | true =>
                  have s1 := (rt_iff.1 k1).1
                  have s2 := (rt_iff.1 k1).2
                  cases k2 : Rt (x F) with
                  | false =>
                    obtain rfl : r = false := by rw [← HR.out]; simp [k1, k2]
                    go_quiet ((go_at_call 9; exact Calls.quiet_of_same (right_q _ _ (by assumption) _)))
                    go_wp2_with fail
                    go_meet
                    exact ⟨rfl, _, rfl⟩
                  | true =>
                    have x1 := (rt_iff.1 k2).1
                    have x2 := (rt_iff.1 k2).2
                    cases k3 : Rt (x T) with
                    | false =>
                      obtain rfl : r = false := by rw [← HR.out]; simp [k1, k2, k3]
                      go_quiet ((go_at_call 9; exact Calls.quiet_of_same (right_q _ _ (by assumption) _)))
                      go_wp2_with fail
                      go_meet
                      exact ⟨rfl, _, rfl⟩
                    | true =>
                      have y1 := (rt_iff.1 k3).1
                      have y2 := (rt_iff.1 k3).2
                      cases k4 : Rt (x F - s) with
                      | false =>
                        obtain rfl : r = false := by rw [← HR.out]; simp [k1, k2, k3, k4]
                        go_quiet ((go_at_call 9; exact Calls.quiet_of_same (right_q _ _ (by assumption) _)))
                        go_wp2_with fail
                        go_meet
                        exact ⟨rfl, _, rfl⟩
                      | true =>
                        cases k5 : Rt (x T + s) with
                        | false =>
                          obtain rfl : r = false := by rw [← HR.out]; simp [k1, k2, k3, k4, k5]
                          go_quiet ((go_at_call 9; exact Calls.quiet_of_same (right_q _ _ (by assumption) _)))
                          go_wp2_with fail
                          go_meet
                          exact ⟨rfl, _, rfl⟩
                        | true =>
                          obtain rfl : r = true := by rw [← HR.out]; simp [k1, k2, k3, k4, k5]
                          go_quiet ((go_at_call 9; exact Calls.quiet_of_same (right_q _ _ (by assumption) _)))
                          go_wp2_with fail
                          go_meet
                          exact ⟨rfl, _, rfl⟩
            case rest =>
              obtain ⟨rfl, nq, rfl⟩ := hcut
              have QH : Aside (FiveAt (w4.drewN nq) w.heap.size x) := QH.out.drewN nq
              have QL : Aside (FiveAt (w4.drewN nq) w1.heap.size x) := QL.out.drewN nq
              have QN : Aside (FiveAt (w4.drewN nq) w3.heap.size y) := QN.out.drewN nq
              have QP : Aside (PostAt (w4.drewN nq) wr.heap.size F T s) := QP.out.drewN nq
              have BA : Aside (Below w.heap.size w (w4.drewN nq)) := ⟨BA.out.os, BA.out.tape, BA.out.output, BA.out.size, BA.out.block⟩
              generalize w4.drewN nq = w5 at *
              cases r with
              | false =>
                obtain rfl : E = 9 := by
                  rw [← HE.out]
                  exact postE_at HQ.out HR.out
                obtain rfl : y = fun _ => 0 := by
                  rw [← HYY.out, postL_no (by rw [HE.out]; decide)]
                clear hcF hcT p0 p1 p2 n0 n1 n2 n3 n4
                obtain ⟨_, _, c0, c1, c2, c3, c4⟩ := QN.out
                have hz := run_equal_five 9997 (fun _ => 0) (fun _ => 0)
                rw [same5_self] at hz
                unfold five at hz
                go_wp2
                go_roundw
                case rel => exact ⟨k + 1, x, hlt, by go_num, QH.out, QL.out, BA.out⟩
                case measure => simp [intOf]; omega
              | true =>
                clear hcF hcT p0 p1 p2 n0 n1 n2 n3 n4
                obtain rfl : E = 0 := by
                  rw [← HE.out]
                  exact postE_at HQ.out HR.out
                obtain rfl : y = turned (turned x F (x F - s)) T (x T + s) := by
                  rw [← HYY.out, postL_yes HE.out]
                  rfl
                have hrr := HR.out
                simp only [Bool.and_eq_true] at hrr
                have s1 := (rt_iff.1 hrr.1.1.2).1
                have s2 := (rt_iff.1 hrr.1.1.2).2
                have x1 := (rt_iff.1 hrr.1.1.1).1
                have x2 := (rt_iff.1 hrr.1.1.1).2
                have y1 := (rt_iff.1 hrr.2.1.1).1
                have y2 := (rt_iff.1 hrr.2.1.1).2
                clear hrr
                go_upto_region 15 with (fail)
                go_cut [] (fun wx => FiveAt wx w.heap.size (turned x F (x F - s)) ∧ FiveAt wx w1.heap.size x ∧ FiveAt wx w3.heap.size (turned (turned x F (x F - s)) T (x T + s)) ∧ PostAt wx wr.heap.size F T s ∧ Below w.heap.size w wx)
                case first =>
                  as_aux_lemma =>
                    have hcF := QH.out.get F F5
                    have hfz := QH.out.fz
                    obtain ⟨_, p0, p1, p2⟩ := QP.out
                    go_still_tail 10, (by kernel_rfl)
                    change wpList _ _ _ _ _ w5.drew
                    go_wp2_with fail
                    go_meet
                    exact ⟨QH.out.drew.store F F5 _, QL.out.drew.other (Nat.ne_of_gt HL.out) _ _, QN.out.drew.other (by have a1 := HL.out; have a2 := hwr.out; have a3 := hN.out; omega) _ _,
                      QP.out.drew.other (by have a1 := HL.out; have a2 := hwr.out; omega) _ _, BA.out.drew.setCell (Nat.le_refl _) _⟩
                case rest =>
                  obtain ⟨qh, ql, qn, qp, ba⟩ := hcut
                  clear QH QL QN QP BA
                  generalize wc = w6 at *
                  have QH : Aside _ := qh
                  have QL : Aside _ := ql
                  have QN : Aside _ := qn
                  have QP : Aside _ := qp
                  have BA : Aside _ := ba
                  clear qh ql qn qp ba
                  go_upto_region 16 with (fail)
                  go_cut [] (fun wx => FiveAt wx w.heap.size (turned (turned x F (x F - s)) T (x T + s)) ∧ FiveAt wx w1.heap.size x ∧ FiveAt wx w3.heap.size (turned (turned x F (x F - s)) T (x T + s)) ∧ PostAt wx wr.heap.size F T s ∧ Below w.heap.size w wx)
                  case first =>
                    as_aux_lemma =>
                      have hcT := QH.out.get T T5
                      rw [show turned x F (x F - s) T = x T by unfold turned; rw [if_neg (Ne.symm FT)]] at hcT
                      have hfz := QH.out.fz
                      obtain ⟨_, p0, p1, p2⟩ := QP.out
                      go_still_tail 10, (by kernel_rfl)
                      change wpList _ _ _ _ _ w6.drew
                      go_wp2_with fail
                      go_meet
                      exact ⟨QH.out.drew.store T T5 _, QL.out.drew.other (Nat.ne_of_gt HL.out) _ _, QN.out.drew.other (by have a1 := HL.out; have a2 := hwr.out; have a3 := hN.out; omega) _ _,
                        QP.out.drew.other (by have a1 := HL.out; have a2 := hwr.out; omega) _ _, BA.out.drew.setCell (Nat.le_refl _) _⟩
                  case rest =>
                    obtain ⟨qh, ql, qn, qp, ba⟩ := hcut
                    clear QH QL QN QP BA HYY HE s1 s2 x1 x2 y1 y2 HR
                    generalize wc = w7 at *
                    generalize turned (turned x F (x F - s)) T (x T + s) = z at *
                    have QH : Aside _ := qh
                    have QL : Aside _ := ql
                    have BA : Aside _ := ba
                    obtain ⟨_, _, c0, c1, c2, c3, c4⟩ := qh
                    obtain ⟨_, _, n0, n1, n2, n3, n4⟩ := qn
                    obtain ⟨_, fl, d0, d1, d2, d3, d4⟩ := ql
                    clear qp ba
                    have hz := run_equal_five 9998 z z
                    rw [same5_self] at hz
                    unfold five at hz
                    have hLn : Hid (w.heap.size ≠ w1.heap.size) := Nat.ne_of_lt HL.out
                    have hLe : Hid (w.heap.size ≤ w1.heap.size) := Nat.le_of_lt HL.out
                    go_wp2
                    go_roundw
                    case rel => exact ⟨k + 1, z, hlt, by go_num, ((((QH.out.other hLn.out _ _).other hLn.out _ _).other hLn.out _ _).other hLn.out _ _).other hLn.out _ _, FiveAt.ofCells fl d0 d1 d2 d3 d4, ((((BA.out.setCell hLe.out _).setCell hLe.out _).setCell hLe.out _).setCell hLe.out _).setCell hLe.out _⟩
                    case measure => simp [intOf]; omega
      · obtain rfl : k = n := by omega
        have HLx : Hid (w.heap.size < w1.heap.size) := HL
        generalize wr = wo at *
        go_wp2
        go_loopw [157] (fun i wq => ∃ j : Nat, j ≤ 5 ∧ i = .int .i64 j ∧ Aside (FiveAt wq w.heap.size x) ∧ Aside (FiveAt wq w1.heap.size x) ∧ Aside (Below w.heap.size w wq)) (fun i _ => 5 - (intOf i).toNat)
        case atStart => exact ⟨0, by omega, rfl, HH, HX, HB⟩
        case round =>
          clear HH HX HB
          obtain ⟨j, hj, rfl, HH, HX, HB⟩ := hrel
          by_cases hj5 : j < 5
          · have hj5' : (j : Int) < 5 := by omega
            have hB := fun W => ledger_balance x j W
            rw [show balanceOf x j = x j by unfold balanceOf; rw [if_pos (by omega)]; rfl] at hB
            unfold five at hB
            have hB2 := fun W (h : Below wr.heap.size wr W) => (hB W).mono (R' := fun e w' => e = .returned (.int .i64 (x j)) ∧ Below wr.heap.size wr w') fun e' w' k' => ⟨k'.1, h.trans (k'.2.mono h.size)⟩
            have HBal : Aside _ := hB2
            clear hB hB2
            have hcj := HH.out.get j hj5
            have hwh : w.heap.size < wr.heap.size := HH.out.lt
            obtain ⟨hw1, _, c0, c1, c2, c3, c4⟩ := HX.out
            have b0 := Below.refl wr.heap.size wr
            go_wp2_with fail
            go_region_held3 (fun w' => Below wr.heap.size wr w' ∧ w'.cell? ⟨w1.heap.size, 0, none⟩ = some (.int .i64 (x 0)) ∧ w'.cell? ⟨w1.heap.size, 1, none⟩ = some (.int .i64 (x 1)) ∧ w'.cell? ⟨w1.heap.size, 2, none⟩ = some (.int .i64 (x 2)) ∧ w'.cell? ⟨w1.heap.size, 3, none⟩ = some (.int .i64 (x 3)) ∧ w'.cell? ⟨w1.heap.size, 4, none⟩ = some (.int .i64 (x 4)) ∧ w'.cell? ⟨w.heap.size, j, none⟩ = some (.int .i64 (x j)))
              (refine ⟨?_, (Below.cell (p := ⟨w1.heap.size, 0, none⟩) (B := wr.heap.size) ?_ hw1).trans c0, (Below.cell (p := ⟨w1.heap.size, 1, none⟩) (B := wr.heap.size) ?_ hw1).trans c1, (Below.cell (p := ⟨w1.heap.size, 2, none⟩) (B := wr.heap.size) ?_ hw1).trans c2, (Below.cell (p := ⟨w1.heap.size, 3, none⟩) (B := wr.heap.size) ?_ hw1).trans c3, (Below.cell (p := ⟨w1.heap.size, 4, none⟩) (B := wr.heap.size) ?_ hw1).trans c4, (Below.cell (p := ⟨w.heap.size, j, none⟩) (B := wr.heap.size) ?_ hwh).trans hcj⟩ <;> (with_reducible (repeat (first | assumption | refine Below.drew ?_))))
              ((go_at_call 10; refine Calls.mono (HBal.out _ ?_) ?_; (with_reducible (repeat (first | assumption | refine Below.drew ?_))); rintro e w8 ⟨rfl, b8⟩))
            all_goals
              have H1 : Aside (FiveAt w8 w.heap.size x) := HH.out.below b8 HH.out.lt
              have H2 : Aside (FiveAt w8 w1.heap.size x) := HX.out.below b8 HX.out.lt
              have H3 : Aside (Below w.heap.size w w8) := HB.out.trans (b8.mono HB.out.size)
              clear c0 c1 c2 c3 c4 hcj b8 b0
              go_wp2
              go_roundw
              case rel => exact ⟨j + 1, by omega, by go_num, H1.out, H2.out, H3.out⟩
              case measure => simp [intOf]; omega
          · obtain rfl : j = 5 := by omega
            go_wp2
            go_ret
            exact ⟨rfl, HB.out⟩
  · have hf' : 100 < (n : Int) := by omega
    go_enter Try.func3, Try.ntmps3
    go_wp2_with fail
    refine (ledger_awake _).mono ?_
    rintro e w1 ⟨rfl, b1⟩
    have b0 : Below w.heap.size w w1 := ((Below.refl _ _).alloc (Nat.le_refl _) _).trans (b1.mono (by simp))
    go_wp2_with fail
    refine (ledger_awake _).mono ?_
    rintro e w2 ⟨rfl, b2⟩
    have b3 := b0.trans (b2.mono b0.size)
    go_wp2
    go_ret
    exact ⟨rfl, b3⟩

theorem posts_contract (W : World) (args : Array Value) (h : Each Try.prog W Try.f3.params.toList args.toList) :
    Calls Try.prog 3 args W fun e W' => e = .returned (.bool true) ∧ Below W.heap.size W W' := by
  rw [Try.params3] at h
  obtain ⟨v0, r0, e0, ⟨_, o0⟩, d0, h⟩ := h.cons
  obtain ⟨v1, r1, rfl, ⟨_, o1⟩, d1, h⟩ := h.cons
  obtain rfl := h.nil
  obtain ⟨args⟩ := args
  obtain rfl : args = [v0, v1] := e0
  obtain ⟨g0, rfl, hg0⟩ := val_five o0 d0
  obtain ⟨sa1, sn1, sc1, rfl, hsc1⟩ := val_slice o1 Try.underlying23
  rw [hsc1] at d1
  obtain ⟨ps1, hps1, hpa1, hpm1, hpi1⟩ := posts_of d1
  exact posts_law g0 sa1 sn1 sc1 ps1 hps1 W hpa1 hpm1

theorem posts_lifted (os : Os) (started : os.Started) (H : Type) (enc : TypeId × Value → H) :
    ReturnsInHanded {} Try.checked os 3 .any (Rows.ledgerPostsSpec.pre6 enc Try.prog Try.f3 Rows.ledgerPostsRow.domain false) (Rows.ledgerPostsSpec.post enc Try.prog Try.f3 false true false false) :=
  law_lifted (C := Try.checked) seat_own seat_laid (by kernel_rfl) Try.func3 rfl (tb := 4) rfl Try.underlying4
    (by
      rw [Try.params3]; intro t ht; simp at ht
      rcases ht with rfl | rfl <;> exact ⟨by kernel_rfl, of_decide_eq_true (by kernel_rfl)⟩)
    (fun H ds hl => by
      rw [Try.params3] at hl
      match ds, hl with
      | [d1, d2], _ => rfl)
    os started H enc
    (ChangeSpec.witness6 (enc := enc) (C := Try.checked) false ⟨#[], #[.agg #[.int .i64 0, .int .i64 0, .int .i64 0, .int .i64 0, .int .i64 0], .slice none 0 0], []⟩ 8 (by kernel_rfl) (by kernel_rfl) (by kernel_rfl) (by kernel_rfl))
    posts_contract

theorem ledgerPosts_holds : Rows.LedgerPostsSaid :=
  OpenClaim.holds_of_wide 3 Try.f3 rfl rfl rfl rfl rfl rfl rfl ⟨rfl, rfl, rfl, rfl, rfl⟩ rfl rfl rfl rfl rfl (by kernel_rfl) Try.func3 (by kernel_rfl)
    (of_decide_eq_true (by kernel_rfl)) (by unfold Func.isWrapper; first | (rw [if_pos (by decide +kernel)]; kernel_rfl) | (rw [if_neg (by decide +kernel)]; exact ⟨rfl, rfl⟩))
    (fun os started H enc _ => posts_lifted os started H enc)
#print axioms ledgerPosts_holds
end Go.Proofs.Ytaboaljpnacnfaa
