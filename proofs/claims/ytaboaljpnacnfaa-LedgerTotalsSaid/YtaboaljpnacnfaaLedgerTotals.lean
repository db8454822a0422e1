/-
  LedgerTotals: whatever is posted, what all accounts have together stays. No conditions: every input.
-/
import Derived.Test.YtaboaljpnacnfaaLedgerSums
import Derived.Test.YtaboaljpnacnfaaOwn
import Derived.Deep.RegionHeld3
namespace Go.Proofs.Ytaboaljpnacnfaa
open Go.RowKit Go.WideShapes
set_option maxRecDepth 100000

set_option maxHeartbeats 4000000 in
theorem totals_law (g : Nat → Int) (a : Option Addr) (n c : Nat) (ps : List (Int × Int × Int)) (hn : ps.length = n) (w : World) (hp : PostsAt w a ps) (hm : n ≤ maxLen) : Calls Try.prog 4 #[.agg (five g), .slice a n c] w fun e w' => e = .returned (.bool true) ∧ Below w.heap.size w w' := by
  unfold maxLen at hm
  by_cases hf : n ≤ 100
  · have hf' : ¬ 100 < (n : Int) := by omega
    have HN := Lib.hid hn
    have hT := fun W => ledger_total g W
    have HT : Aside _ := hT
    clear hT hn
    unfold five at HT
    go_enter Try.func4, Try.ntmps4
    go_wp2_with fail
    refine (ledger_awake _).mono ?_
    rintro e w1 ⟨rfl, b1⟩
    have q1 := (five_new w g 22).below b1 (by simp)
    have b0 : Below w.heap.size w w1 := ((Below.refl _ _).alloc (Nat.le_refl _) _).trans (b1.mono (by simp))
    have q3 := b0.size
    clear b1
    obtain ⟨l1, f1, c0, c1, c2, c3, c4⟩ := q1
    go_wp2_with fail
    refine (HT.out _).mono ?_
    rintro e w2 ⟨rfl, b2⟩
    have q4 := (five_new w1 g 26).below b2 (by simp)
    have q5 := ((FiveAt.mk l1 f1 c0 c1 c2 c3 c4).alloc (.cells (five g) 26)).below b2 (by simp; omega)
    have b3 : Below w.heap.size w w2 := below_box b0 b2
    have q6 := b2.size
    have q7 := b3.size
    simp only [World.size_alloc] at q6
    clear f1 c0 c1 c2 c3 c4 b0 b2 l1
    obtain ⟨l1, f1, c0, c1, c2, c3, c4⟩ := q4
    obtain ⟨l2, _, d0, d1, d2, d3, d4⟩ := q5
    have hs := tot_told g
    obtain ⟨T, hT⟩ : ∃ T, tot g 5 = T := ⟨_, rfl⟩
    rw [hT] at hs
    rw [hT]
    have H0 : Aside (tot g 5 = T) := hT
    clear hT
    go_wp2
    clear d0 d1 d2 d3 d4 hs l2
    have HB : Aside (Below w.heap.size w w2) := b3
    have HL : Hid (w.heap.size ≤ w1.heap.size ∧ w1.heap.size < w2.heap.size) := ⟨by omega, by omega⟩
    have HX : Aside (FiveAt w2 w1.heap.size g) := ⟨l1, f1, c0, c1, c2, c3, c4⟩
    clear b3 q3 q6 q7 l1 f1 c0 c1 c2 c3 c4
    go_loopw [40] (fun i wr => ∃ (k : Nat) (x : Nat → Int), k ≤ n ∧ i = .int .i64 k ∧ Aside (tot x 5 = T) ∧ Aside (FiveAt wr w1.heap.size x) ∧ Aside (Below w.heap.size w wr)) (fun i _ => n - (intOf i).toNat)
    case atStart => exact ⟨0, g, Nat.zero_le _, rfl, H0, HX, HB⟩
    case round =>
      obtain ⟨k, x, hk, rfl, HT, HX, HB⟩ := hrel
      by_cases hlt : k < n
      · have hkn : (k : Int) < (n : Int) := by omega
        rcases hp with rfl | ⟨b, off, rfl, hb, hc⟩
        · have := HN.out; simp at this; omega
        have hlk : k < ps.length := by rw [HN.out]; exact hlt
        obtain ⟨e1, e2, e3⟩ := hc k hlk
        rw [← HB.out.cell (p := ⟨b, _, none⟩) hb] at e1 e2 e3
        clear hc
        generalize ps[k] = p at *
        obtain ⟨l1, f1, c0, c1, c2, c3, c4⟩ := HX.out
        have hw1 : w1.heap.size < wr.heap.size := l1
        have hbr : b < wr.heap.size := Nat.lt_of_lt_of_le hb HB.out.size
        have b0 := Below.refl wr.heap.size wr
        obtain ⟨E, hE⟩ : ∃ E, postE x p.1 p.2.1 p.2.2 = E := ⟨_, rfl⟩
        obtain ⟨y, hy⟩ : ∃ y, postL x p.1 p.2.1 p.2.2 = y := ⟨_, rfl⟩
        have hP := fun (W : World) (h : Below wr.heap.size wr W) => post_over (g := x) (f := p.1) (t := p.2.1) (s := p.2.2) h
        rw [hE, hy] at hP
        have HP : Aside _ := hP
        clear hP
        by_cases h0 : E = 0
        · have HY : Aside (tot y 5 = T) := by
            show _ = _
            rw [← hy, tot_posted (hE.trans h0)]
            exact HT.out
          subst h0
          have hT2 := fun W => ledger_total y W
          rw [HY.out] at hT2
          have HT2 : Aside _ := hT2
          clear hT2 hE hy HT
          unfold five at HT2
          go_wp2_with fail
          go_region_held3 (fun w' => Below wr.heap.size wr w' ∧ w'.cell? ⟨w1.heap.size, 0, none⟩ = some (.int .i64 (x 0)) ∧ w'.cell? ⟨w1.heap.size, 1, none⟩ = some (.int .i64 (x 1)) ∧ w'.cell? ⟨w1.heap.size, 2, none⟩ = some (.int .i64 (x 2)) ∧ w'.cell? ⟨w1.heap.size, 3, none⟩ = some (.int .i64 (x 3)) ∧ w'.cell? ⟨w1.heap.size, 4, none⟩ = some (.int .i64 (x 4)) ∧ w'.cell? ⟨b, off + k * 3, none⟩ = some (.int .i64 p.1) ∧ w'.cell? ⟨b, off + k * 3 + 1, none⟩ = some (.int .i64 p.2.1) ∧ w'.cell? ⟨b, off + k * 3 + 2, none⟩ = some (.int .i64 p.2.2))
            (refine ⟨?_, (Below.cell (p := ⟨w1.heap.size, 0, none⟩) (B := wr.heap.size) ?_ hw1).trans c0, (Below.cell (p := ⟨w1.heap.size, 1, none⟩) (B := wr.heap.size) ?_ hw1).trans c1, (Below.cell (p := ⟨w1.heap.size, 2, none⟩) (B := wr.heap.size) ?_ hw1).trans c2, (Below.cell (p := ⟨w1.heap.size, 3, none⟩) (B := wr.heap.size) ?_ hw1).trans c3, (Below.cell (p := ⟨w1.heap.size, 4, none⟩) (B := wr.heap.size) ?_ hw1).trans c4, (Below.cell (p := ⟨b, off + k * 3, none⟩) (B := wr.heap.size) ?_ hbr).trans e1, (Below.cell (p := ⟨b, off + k * 3 + 1, none⟩) (B := wr.heap.size) ?_ hbr).trans e2, (Below.cell (p := ⟨b, off + k * 3 + 2, none⟩) (B := wr.heap.size) ?_ hbr).trans e3⟩ <;> (with_reducible (repeat (first | assumption | refine below_setnew ?_ (Nat.le_refl _) _ | refine Below.drew ?_ | refine below_alloc1 ?_ _))))
            ((go_at_call 8; refine Calls.mono (HP.out _ ?_) ?_; (with_reducible (repeat (first | assumption | refine Below.drew ?_ | refine below_alloc1 ?_ _))); rintro e w3 ⟨rfl, b3, b4⟩; (first | (have z0 : w3.cell? ⟨wr.heap.size, 0, none⟩ = some (.int .i64 0) := box_cell b4 0 _ rfl; have z1 : w3.cell? ⟨wr.heap.size, 1, none⟩ = some (.int .i64 0) := box_cell b4 1 _ rfl; have z2 : w3.cell? ⟨wr.heap.size, 2, none⟩ = some (.int .i64 0) := box_cell b4 2 _ rfl; have z3 : w3.cell? ⟨wr.heap.size, 3, none⟩ = some (.int .i64 0) := box_cell b4 3 _ rfl; have z4 : w3.cell? ⟨wr.heap.size, 4, none⟩ = some (.int .i64 0) := box_cell b4 4 _ rfl; have fz : ∀ j, w3.frozen? ⟨wr.heap.size, j, none⟩ = false := fun j => box_frozen b4 j) | (have z0 : w3.cell? ⟨wr.heap.size, 0, none⟩ = some (.int .i64 0) := box_cell_drew b4 0 _ rfl; have z1 : w3.cell? ⟨wr.heap.size, 1, none⟩ = some (.int .i64 0) := box_cell_drew b4 1 _ rfl; have z2 : w3.cell? ⟨wr.heap.size, 2, none⟩ = some (.int .i64 0) := box_cell_drew b4 2 _ rfl; have z3 : w3.cell? ⟨wr.heap.size, 3, none⟩ = some (.int .i64 0) := box_cell_drew b4 3 _ rfl; have z4 : w3.cell? ⟨wr.heap.size, 4, none⟩ = some (.int .i64 0) := box_cell_drew b4 4 _ rfl; have fz : ∀ j, w3.frozen? ⟨wr.heap.size, j, none⟩ = false := fun j => box_frozen_drew b4 j) | skip)))
          case _ =>
            have q1 : FiveAt (w3.alloc (.cells (five y) 26)) w1.heap.size x := (HX.out.below b3 hw1).alloc _
            have q0 : FiveAt (w3.alloc (.cells (five y) 26)) w3.heap.size y := five_new w3 y 26
            have bA : Below w.heap.size w (w3.alloc (.cells (five y) 26)) := (HB.out.trans (b3.mono HB.out.size)).alloc (HB.out.trans (b3.mono HB.out.size)).size _
            clear f1 c0 c1 c2 c3 c4 e1 e2 e3 
            go_wp2_with fail
            refine (HT2.out _).mono ?_
            rintro e w5 ⟨rfl, b5⟩
            have q2 := q0.below b5 q0.lt
            have q3 := q1.below b5 q1.lt
            have bB := bA.trans (b5.mono bA.size)
            clear q0 q1 bA b5 b3 b4 b0
            obtain ⟨m1, g1, c0, c1, c2, c3, c4⟩ := q2
            obtain ⟨m2, g2, d0, d1, d2, d3, d4⟩ := q3
            have HB1 : Hid (w.heap.size ≤ w1.heap.size) := HL.out.1
            have HBB : Aside _ := bB
            clear bB
            go_wp2
            go_roundw
            case rel => exact ⟨k + 1, y, hlt, by go_num, HY.out, FiveAt.ofCells g2 d0 d1 d2 d3 d4, ((((HBB.out.setCell HB1.out _).setCell HB1.out _).setCell HB1.out _).setCell HB1.out _).setCell HB1.out _⟩
            case measure => simp [intOf]; omega
          case _ =>
            have q1 : FiveAt (((((w3.setCell ⟨wr.heap.size, 0, none⟩ (.int .i64 (y 0))).setCell ⟨wr.heap.size, 1, none⟩ (.int .i64 (y 1))).setCell ⟨wr.heap.size, 2, none⟩ (.int .i64 (y 2))).setCell ⟨wr.heap.size, 3, none⟩ (.int .i64 (y 3))).setCell ⟨wr.heap.size, 4, none⟩ (.int .i64 (y 4))) w1.heap.size x := (((((HX.out.below b3 hw1).other (Nat.ne_of_lt hw1) _ _).other (Nat.ne_of_lt hw1) _ _).other (Nat.ne_of_lt hw1) _ _).other (Nat.ne_of_lt hw1) _ _).other (Nat.ne_of_lt hw1) _ _
            have q0 : FiveAt (((((w3.setCell ⟨wr.heap.size, 0, none⟩ (.int .i64 (y 0))).setCell ⟨wr.heap.size, 1, none⟩ (.int .i64 (y 1))).setCell ⟨wr.heap.size, 2, none⟩ (.int .i64 (y 2))).setCell ⟨wr.heap.size, 3, none⟩ (.int .i64 (y 3))).setCell ⟨wr.heap.size, 4, none⟩ (.int .i64 (y 4))) wr.heap.size y := FiveAt.ofCells fz z0 z1 z2 z3 z4
            have bA : Below w.heap.size w (((((w3.setCell ⟨wr.heap.size, 0, none⟩ (.int .i64 (y 0))).setCell ⟨wr.heap.size, 1, none⟩ (.int .i64 (y 1))).setCell ⟨wr.heap.size, 2, none⟩ (.int .i64 (y 2))).setCell ⟨wr.heap.size, 3, none⟩ (.int .i64 (y 3))).setCell ⟨wr.heap.size, 4, none⟩ (.int .i64 (y 4))) := (((((HB.out.trans (b3.mono HB.out.size)).setCell HB.out.size _).setCell HB.out.size _).setCell HB.out.size _).setCell HB.out.size _).setCell HB.out.size _
            clear f1 c0 c1 c2 c3 c4 e1 e2 e3 
            go_wp2_with fail
            refine (HT2.out _).mono ?_
            rintro e w5 ⟨rfl, b5⟩
            have q2 := q0.below b5 q0.lt
            have q3 := q1.below b5 q1.lt
            have bB := bA.trans (b5.mono bA.size)
            clear q0 q1 bA b5 b3 b4 b0
            obtain ⟨m1, g1, c0, c1, c2, c3, c4⟩ := q2
            obtain ⟨m2, g2, d0, d1, d2, d3, d4⟩ := q3
            have HB1 : Hid (w.heap.size ≤ w1.heap.size) := HL.out.1
            have HBB : Aside _ := bB
            clear bB
            go_wp2
            go_roundw
            case rel => exact ⟨k + 1, y, hlt, by go_num, HY.out, FiveAt.ofCells g2 d0 d1 d2 d3 d4, ((((HBB.out.setCell HB1.out _).setCell HB1.out _).setCell HB1.out _).setCell HB1.out _).setCell HB1.out _⟩
            case measure => simp [intOf]; omega
        · clear hE hy
          have hE0 : (E == 0) = false := by simpa using h0
          go_wp2_with fail
          go_region_held3 (fun w' => Below wr.heap.size wr w' ∧ w'.cell? ⟨w1.heap.size, 0, none⟩ = some (.int .i64 (x 0)) ∧ w'.cell? ⟨w1.heap.size, 1, none⟩ = some (.int .i64 (x 1)) ∧ w'.cell? ⟨w1.heap.size, 2, none⟩ = some (.int .i64 (x 2)) ∧ w'.cell? ⟨w1.heap.size, 3, none⟩ = some (.int .i64 (x 3)) ∧ w'.cell? ⟨w1.heap.size, 4, none⟩ = some (.int .i64 (x 4)) ∧ w'.cell? ⟨b, off + k * 3, none⟩ = some (.int .i64 p.1) ∧ w'.cell? ⟨b, off + k * 3 + 1, none⟩ = some (.int .i64 p.2.1) ∧ w'.cell? ⟨b, off + k * 3 + 2, none⟩ = some (.int .i64 p.2.2))
            (refine ⟨?_, (Below.cell (p := ⟨w1.heap.size, 0, none⟩) (B := wr.heap.size) ?_ hw1).trans c0, (Below.cell (p := ⟨w1.heap.size, 1, none⟩) (B := wr.heap.size) ?_ hw1).trans c1, (Below.cell (p := ⟨w1.heap.size, 2, none⟩) (B := wr.heap.size) ?_ hw1).trans c2, (Below.cell (p := ⟨w1.heap.size, 3, none⟩) (B := wr.heap.size) ?_ hw1).trans c3, (Below.cell (p := ⟨w1.heap.size, 4, none⟩) (B := wr.heap.size) ?_ hw1).trans c4, (Below.cell (p := ⟨b, off + k * 3, none⟩) (B := wr.heap.size) ?_ hbr).trans e1, (Below.cell (p := ⟨b, off + k * 3 + 1, none⟩) (B := wr.heap.size) ?_ hbr).trans e2, (Below.cell (p := ⟨b, off + k * 3 + 2, none⟩) (B := wr.heap.size) ?_ hbr).trans e3⟩ <;> (with_reducible (repeat (first | assumption | refine below_setnew ?_ (Nat.le_refl _) _ | refine Below.drew ?_ | refine below_alloc1 ?_ _))))
            ((go_at_call 8; refine Calls.mono (HP.out _ ?_) ?_; (with_reducible (repeat (first | assumption | refine Below.drew ?_ | refine below_alloc1 ?_ _))); rintro e w3 ⟨rfl, b3, b4⟩; (first | (have z0 : w3.cell? ⟨wr.heap.size, 0, none⟩ = some (.int .i64 0) := box_cell b4 0 _ rfl; have z1 : w3.cell? ⟨wr.heap.size, 1, none⟩ = some (.int .i64 0) := box_cell b4 1 _ rfl; have z2 : w3.cell? ⟨wr.heap.size, 2, none⟩ = some (.int .i64 0) := box_cell b4 2 _ rfl; have z3 : w3.cell? ⟨wr.heap.size, 3, none⟩ = some (.int .i64 0) := box_cell b4 3 _ rfl; have z4 : w3.cell? ⟨wr.heap.size, 4, none⟩ = some (.int .i64 0) := box_cell b4 4 _ rfl; have fz : ∀ j, w3.frozen? ⟨wr.heap.size, j, none⟩ = false := fun j => box_frozen b4 j) | (have z0 : w3.cell? ⟨wr.heap.size, 0, none⟩ = some (.int .i64 0) := box_cell_drew b4 0 _ rfl; have z1 : w3.cell? ⟨wr.heap.size, 1, none⟩ = some (.int .i64 0) := box_cell_drew b4 1 _ rfl; have z2 : w3.cell? ⟨wr.heap.size, 2, none⟩ = some (.int .i64 0) := box_cell_drew b4 2 _ rfl; have z3 : w3.cell? ⟨wr.heap.size, 3, none⟩ = some (.int .i64 0) := box_cell_drew b4 3 _ rfl; have z4 : w3.cell? ⟨wr.heap.size, 4, none⟩ = some (.int .i64 0) := box_cell_drew b4 4 _ rfl; have fz : ∀ j, w3.frozen? ⟨wr.heap.size, j, none⟩ = false := fun j => box_frozen_drew b4 j) | skip)))
          case _ =>
            have q1 : FiveAt (w3.alloc (.cells (five y) 26)) w1.heap.size x := (HX.out.below b3 hw1).alloc _
            have bA : Below w.heap.size w (w3.alloc (.cells (five y) 26)) := (HB.out.trans (b3.mono HB.out.size)).alloc (HB.out.trans (b3.mono HB.out.size)).size _
            have H1 : Aside _ := q1
            have HA : Aside _ := bA
            clear f1 c0 c1 c2 c3 c4 e1 e2 e3 q1 bA b3 b4 b0
            go_wp2
            go_roundw
            case rel => exact ⟨k + 1, x, hlt, by go_num, HT.out, H1.out, HA.out⟩
            case measure => simp [intOf]; omega
          case _ =>
            have q1 : FiveAt (((((w3.setCell ⟨wr.heap.size, 0, none⟩ (.int .i64 (y 0))).setCell ⟨wr.heap.size, 1, none⟩ (.int .i64 (y 1))).setCell ⟨wr.heap.size, 2, none⟩ (.int .i64 (y 2))).setCell ⟨wr.heap.size, 3, none⟩ (.int .i64 (y 3))).setCell ⟨wr.heap.size, 4, none⟩ (.int .i64 (y 4))) w1.heap.size x := (((((HX.out.below b3 hw1).other (Nat.ne_of_lt hw1) _ _).other (Nat.ne_of_lt hw1) _ _).other (Nat.ne_of_lt hw1) _ _).other (Nat.ne_of_lt hw1) _ _).other (Nat.ne_of_lt hw1) _ _
            have bA : Below w.heap.size w (((((w3.setCell ⟨wr.heap.size, 0, none⟩ (.int .i64 (y 0))).setCell ⟨wr.heap.size, 1, none⟩ (.int .i64 (y 1))).setCell ⟨wr.heap.size, 2, none⟩ (.int .i64 (y 2))).setCell ⟨wr.heap.size, 3, none⟩ (.int .i64 (y 3))).setCell ⟨wr.heap.size, 4, none⟩ (.int .i64 (y 4))) := (((((HB.out.trans (b3.mono HB.out.size)).setCell HB.out.size _).setCell HB.out.size _).setCell HB.out.size _).setCell HB.out.size _).setCell HB.out.size _
            have H1 : Aside _ := q1
            have HA : Aside _ := bA
            clear f1 c0 c1 c2 c3 c4 e1 e2 e3 q1 bA b3 b4 b0
            go_wp2
            go_roundw
            case rel => exact ⟨k + 1, x, hlt, by go_num, HT.out, H1.out, HA.out⟩
            case measure => simp [intOf]; omega
      · obtain rfl : k = n := by omega
        go_wp2
        go_ret
        exact ⟨rfl, HB.out⟩
  · have hf' : 100 < (n : Int) := by omega
    go_enter Try.func4, Try.ntmps4
    go_wp2_with fail
    refine (ledger_awake _).mono ?_
    rintro e w1 ⟨rfl, b1⟩
    have b0 : Below w.heap.size w w1 := ((Below.refl _ _).alloc (Nat.le_refl _) _).trans (b1.mono (by simp))
    go_wp2_with fail
    refine (ledger_awake _).mono ?_
    rintro e w2 ⟨rfl, b2⟩
    have b3 := b0.trans (b2.mono b0.size)
    go_wp2
    go_ret
    exact ⟨rfl, b3⟩

theorem totals_contract (W : World) (args : Array Value) (h : Each Try.prog W Try.f4.params.toList args.toList) :
    Calls Try.prog 4 args W fun e W' => e = .returned (.bool true) ∧ Below W.heap.size W W' := by
  rw [Try.params4] at h
  obtain ⟨v0, r0, e0, ⟨_, o0⟩, d0, h⟩ := h.cons
  obtain ⟨v1, r1, rfl, ⟨_, o1⟩, d1, h⟩ := h.cons
  obtain rfl := h.nil
  obtain ⟨args⟩ := args
  obtain rfl : args = [v0, v1] := e0
  obtain ⟨g0, rfl, hg0⟩ := val_five o0 d0
  obtain ⟨sa1, sn1, sc1, rfl, hsc1⟩ := val_slice o1 Try.underlying23
  rw [hsc1] at d1
  obtain ⟨ps1, hps1, hpa1, hpm1, hpi1⟩ := posts_of d1
  exact totals_law g0 sa1 sn1 sc1 ps1 hps1 W hpa1 hpm1

theorem totals_lifted (os : Os) (started : os.Started) (H : Type) (enc : TypeId × Value → H) :
    ReturnsInHanded {} Try.checked os 4 .any (Rows.ledgerTotalsSpec.pre6 enc Try.prog Try.f4 Rows.ledgerTotalsRow.domain false) (Rows.ledgerTotalsSpec.post enc Try.prog Try.f4 false true false false) :=
  law_lifted (C := Try.checked) seat_own seat_laid (by kernel_rfl) Try.func4 rfl (tb := 4) rfl Try.underlying4
    (by
      rw [Try.params4]; intro t ht; simp at ht
      rcases ht with rfl | rfl <;> exact ⟨by kernel_rfl, of_decide_eq_true (by kernel_rfl)⟩)
    (fun H ds hl => by
      rw [Try.params4] at hl
      match ds, hl with
      | [d1, d2], _ => rfl)
    os started H enc
    (ChangeSpec.witness6 (enc := enc) (C := Try.checked) false ⟨#[], #[.agg #[.int .i64 0, .int .i64 0, .int .i64 0, .int .i64 0, .int .i64 0], .slice none 0 0], []⟩ 8 (by kernel_rfl) (by kernel_rfl) (by kernel_rfl) (by kernel_rfl))
    totals_contract

theorem ledgerTotals_holds : Rows.LedgerTotalsSaid :=
  OpenClaim.holds_of_wide 4 Try.f4 rfl rfl rfl rfl rfl rfl rfl ⟨rfl, rfl, rfl, rfl, rfl⟩ rfl rfl rfl rfl rfl (by kernel_rfl) Try.func4 (by kernel_rfl)
    (of_decide_eq_true (by kernel_rfl)) (by unfold Func.isWrapper; first | (rw [if_pos (by decide +kernel)]; kernel_rfl) | (rw [if_neg (by decide +kernel)]; exact ⟨rfl, rfl⟩))
    (fun os started H enc _ => totals_lifted os started H enc)
#print axioms ledgerTotals_holds
end Go.Proofs.Ytaboaljpnacnfaa
