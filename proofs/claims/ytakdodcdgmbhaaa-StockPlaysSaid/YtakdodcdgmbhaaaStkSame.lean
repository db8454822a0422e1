/-
  The statements' own side: recouplaw11.same: has a stock what the model has? Conditions: those of each theorem.
-/
import Derived.Test.YtakdodcdgmbhaaaStkRef
namespace Go.Proofs.Ytakdodcdgmbhaaa
open Go.RowKit Go.Deep
set_option maxRecDepth 100000

/-- The array of nine counts, in block B, of the first k units. -/
structure CntAt (w W : World) (B k : Nat) (u : Nat → Itm) : Prop where
  below : Below w.heap.size w W
  ge : w.heap.size ≤ B
  lt : B < W.heap.size
  cell : ∀ q : Nat, q < 9 → W.cell? ⟨B, q, none⟩ = some (.int .i64 (cntTo u k q))
  fz : ∀ j, W.frozen? ⟨B, j, none⟩ = false
theorem CntAt.more {w W W' : World} {B k : Nat} {u : Nat → Itm} (h : CntAt w W B k u) (hb : Below W.heap.size W W') : CntAt w W' B k u :=
  ⟨h.below.trans (hb.mono h.below.size), h.ge, Nat.lt_of_lt_of_le h.lt hb.size, fun q hq => (hb.cell (p := ⟨B, q, none⟩) h.lt).trans (h.cell q hq), fun j => (hb.frozen (p := ⟨B, j, none⟩) h.lt).trans (h.fz j)⟩
theorem CntAt.drewN {w W : World} {B k : Nat} {u : Nat → Itm} (h : CntAt w W B k u) (m : Nat) : CntAt w (W.drewN m) B k u := h.more (below_drawn (Below.refl _ _) m)
theorem CntAt.inc {w W : World} {B k P : Nat} {u : Nat → Itm} (h : CntAt w W B k u) (hP : (u k).place = P) (h9 : P < 9) : CntAt w (W.setCell ⟨B, P, none⟩ (.int .i64 ((cntTo u k P : Nat) + 1))) B (k + 1) u := by
  refine ⟨h.below.setCell h.ge _, h.ge, by rw [setCell_size]; exact h.lt, fun q hq => ?_, fun j => by rw [World.frozen?_setCell]; exact h.fz j⟩
  rw [cntTo_succ, hP]
  by_cases e : q = P
  · subst e
    rw [cell_same (h.cell q hq), beq_self_eq_true, if_pos rfl]
    rfl
  · rw [cell_other e, h.cell q hq]
    have : ((P : Int) == (q : Int)) = false := by simp; omega
    rw [this]
    rfl
theorem StockAt.drewN {w : World} {p G n : Nat} {u : Nat → Itm} (h : StockAt w p G n u) (m : Nat) : StockAt (w.drewN m) p G n u := h.below (below_drawn (Below.refl _ _) m)
theorem cnt_zero (w : World) (u : Nat → Itm) (t : TypeId) : CntAt w (w.alloc (.cells #[.int .i64 0, .int .i64 0, .int .i64 0, .int .i64 0, .int .i64 0, .int .i64 0, .int .i64 0, .int .i64 0, .int .i64 0] t)) w.heap.size 0 u := by
  refine ⟨upd_box _, Nat.le_refl _, by simp, fun q hq => ?_, fun j => by unfold World.frozen?; rw [heap_alloc_new]; simp⟩
  have hc : cntTo u 0 q = 0 := rfl
  rw [hc]
  have := (arr_new w #[.int .i64 0, .int .i64 0, .int .i64 0, .int .i64 0, .int .i64 0, .int .i64 0, .int .i64 0, .int .i64 0, .int .i64 0] t).cells q (.int .i64 0) (by
    match q, hq with
    | 0, _ => rfl
    | 1, _ => rfl
    | 2, _ => rfl
    | 3, _ => rfl
    | 4, _ => rfl
    | 5, _ => rfl
    | 6, _ => rfl
    | 7, _ => rfl
    | 8, _ => rfl)
  rwa [Nat.zero_add] at this
theorem cntTo_none {u : Nat → Itm} {q : Int} : ∀ n, (∀ k, k < n → (u k).place ≠ q) → cntTo u n q = 0
  | 0, _ => rfl
  | n + 1, h => by
    rw [cntTo_succ, cntTo_none n (fun k hk => h k (by omega))]
    have : ((u n).place == q) = false := by simpa using h n (by omega)
    rw [this]
    rfl

set_option maxHeartbeats 8000000 in
theorem stk_same {w : World} {p G H n c : Nat} {a : Option Addr} {u : Nat → Itm} (hS : StockAt w p G n u) (hR : RefAt w a H n u) (hp : ∀ k, k < n → 0 ≤ (u k).place ∧ (u k).place ≤ 8) :
    Calls Try.prog 13 #[.pointer (some ⟨p, 0, none⟩), .slice a n c] w fun e w' => e = .returned (.bool true) ∧ Below w.heap.size w w' := by
  have HS : Aside _ := hS
  have HR : Aside _ := hR
  have HP : Hid (∀ k, k < n → 0 ≤ (u k).place ∧ (u k).place ≤ 8) := hp
  have hn := hS.few
  have HC : Aside _ := cnt_zero w u 59
  clear hS hR hp
  go_enter Try.func13, Try.ntmps13
  go_upto_region 2 with (fail)
  show Code.wp _ _ _ _ (w.alloc (.cells #[.int .i64 0, .int .i64 0, .int .i64 0, .int .i64 0, .int .i64 0, .int .i64 0, .int .i64 0, .int .i64 0, .int .i64 0] 59))
  generalize w.alloc (.cells #[.int .i64 0, .int .i64 0, .int .i64 0, .int .i64 0, .int .i64 0, .int .i64 0, .int .i64 0, .int .i64 0, .int .i64 0] 59) = w1 at *
  obtain ⟨B, hB⟩ : ∃ B, B = w.heap.size := ⟨_, rfl⟩
  rw [← hB] at HC ⊢
  clear hB
  go_wp2
  go_loopw [12] (fun i wr => ∃ k : Nat, k ≤ n ∧ i = .int .i64 k ∧ Aside (CntAt w wr B k u)) (fun i _ => n - (intOf i).toNat)
  case atStart => exact ⟨0, Nat.zero_le _, rfl, HC.out⟩
  case round =>
    clear HC
    obtain ⟨k, hk, rfl, HC⟩ := hrel
    by_cases hlt : k < n
    · have hkn : (k : Int) < (n : Int) := by omega
      have hk0 : (0 : Int) ≤ (k : Int) := by omega
      have hn0 : 0 < n := by omega
      obtain rfl := HR.out.at_ hn0
      have HSE : Aside _ := stk_seen (HS.out.below HC.out.below) hlt
      go_wp2_with fail
      refine Calls.mono HSE.out ?_
      rintro e w5 ⟨rfl, b5⟩
      have HC5 : Aside _ := HC.out.more b5
      have HPq : Aside (∀ m, _) := fun m => stk_place ((HS.out.below HC5.out.below).drewN m) hlt
      have HKq : Aside (∀ m, _) := fun m => stk_sku ((HS.out.below HC5.out.below).drewN m) hlt
      have hr := ((HR.out.row hn0).below HC5.out.below).row k hlt
      have r0 : w5.cell? ⟨H, k * 4, none⟩ = some (.int .i64 (u k).place) := hr.cells 0 _ rfl
      have r1 : w5.cell? ⟨H, k * 4 + 1, none⟩ = some (.int .i64 (u k).sku) := hr.cells 1 _ rfl
      have r2 : w5.cell? ⟨H, k * 4 + 2, none⟩ = some (.bool (u k).rcv) := hr.cells 2 _ rfl
      have r3 : w5.cell? ⟨H, k * 4 + 3, none⟩ = some (.bool (u k).grd) := hr.cells 3 _ rfl
      obtain ⟨P, hP⟩ : ∃ P : Nat, (u k).place = P := ⟨(u k).place.toNat, by have := HP.out k hlt; omega⟩
      have hP9 : P < 9 := by have := HP.out k hlt; omega
      have hP9' : (P : Int) < 9 := by omega
      have d0 := HC5.out.cell P hP9
      have d1 := HC5.out.fz P
      have hcn : cntTo u k P ≤ 200 := by have := cntTo_le u k P; omega
      have HI : Aside (∀ m, CntAt w ((w5.drewN m).setCell ⟨B, P, none⟩ (.int .i64 ((cntTo u k P : Nat) + 1))) B (k + 1) u) := fun m => (HC5.out.drewN m).inc hP hP9
      rw [hP] at HPq r0
      clear hr HC HC5 hP b5 HSE
      generalize (u k).sku = sku at *
      generalize (u k).rcv = rc at *
      generalize (u k).grd = gr at *
      generalize cntTo u k P = C at *
      go_wp2_with fail
      go_quiet ((first | (go_at_call 16; exact Calls.quiet_of_same (HPq.out _)) | (go_at_call 25; exact Calls.quiet_of_same (HKq.out _))))
      go_wp2
      go_roundw
      case rel => exact ⟨k + 1, by omega, by go_num, HI.out _⟩
      case measure => simp [intOf]; omega
    · obtain rfl : k = n := by omega
      go_wp2
      go_loopw [69] (fun i wr => ∃ q : Nat, q ≤ 9 ∧ i = .int .i64 q ∧ Aside (CntAt w wr B k u)) (fun i _ => 9 - (intOf i).toNat)
      case atStart => exact ⟨0, Nat.zero_le _, rfl, HC.out⟩
      case round =>
        clear HC
        obtain ⟨q, hq, rfl, HC⟩ := hrel
        by_cases hlq : q < 9
        · have hq9 : (q : Int) < 9 := by omega
          have hq0 : (0 : Int) ≤ (q : Int) := by omega
          have d0 := HC.out.cell q hlq
          have hBl := HC.out.lt
          have HB := HC.out.below
          have HCT : Aside (∀ W, Below wr.heap.size wr W → Calls Try.prog 14 #[.pointer (some ⟨p, 0, none⟩), .int .i64 (q : Int)] W fun e W' => e = .returned (.int .i64 (cntTo u k q)) ∧ Below wr.heap.size wr W') := fun W h => by
            refine (stk_count ((HS.out.below HB).below h) q).mono ?_
            rintro e W' ⟨he, hb⟩
            exact ⟨he, h.trans (hb.mono h.size)⟩
          have HCS : Aside (∀ W, Below wr.heap.size wr W → CntAt w W B k u) := fun W h => HC.out.more h
          have v0 := Below.refl wr.heap.size wr
          clear HC HB
          generalize cntTo u k q = C at *
          go_wp2_with fail
          go_region_held3 (fun w' => Below wr.heap.size wr w' ∧ w'.cell? ⟨B, q, none⟩ = some (.int .i64 (C : Int)))
            (refine ⟨?_, (Below.cell (p := ⟨B, q, none⟩) (B := wr.heap.size) ?_ hBl).trans d0⟩ <;> (first | assumption | exact Below.drew (by assumption)))
            ((go_at_call 14; with_reducible refine Calls.mono (HCT.out _ ?_) ?_; (first | assumption | exact Below.drew (by assumption)); rintro e w8 ⟨rfl, b8⟩))
          all_goals
            have HC8 := HCS.out _ b8
            have HC9 := HCS.out _ b8.drew
            go_wp2
            go_roundw
            case rel => first | exact ⟨q + 1, by omega, by go_num, HC8⟩ | exact ⟨q + 1, by omega, by go_num, HC9⟩
            case measure => simp [intOf]; omega
        · obtain rfl : q = 9 := by omega
          have HB : Aside (Below w.heap.size w wr) := HC.out.below
          have HSr : Aside (StockAt wr p G k u) := HS.out.below HB.out
          have HLN : Aside _ := stk_len HSr.out
          have HPO : Aside _ := stk_place_out (i := -1) HSr.out (by omega)
          have HKO : Aside _ := stk_sku_out (i := k) HSr.out (by omega)
          have HCO : Aside _ := stk_count HSr.out 9
          rw [cntTo_none k (fun j hj => by have := HP.out j hj; omega)] at HCO
          clear HC
          go_wp2_with fail
          refine Calls.mono HLN.out ?_
          rintro e w2 ⟨rfl, rfl⟩
          go_wp2_with fail
          refine Calls.mono HPO.out ?_
          rintro e w2 ⟨rfl, rfl⟩
          go_wp2_with fail
          refine Calls.mono HKO.out ?_
          rintro e w2 ⟨rfl, rfl⟩
          go_wp2_with fail
          refine Calls.mono HCO.out ?_
          rintro e w2 ⟨rfl, b2⟩
          have HB2 : Aside (Below w.heap.size w w2) := HB.out.trans (b2.mono HB.out.size)
          clear b2
          go_wp2
          go_ret
          exact ⟨rfl, HB2.out⟩
end Go.Proofs.Ytakdodcdgmbhaaa
