/-
  StockStays: whatever is done, each unit is in one place, and their number stays; none comes to a shelf of returns that wasn't received. No conditions: every input.
-/
import Derived.Test.YtakdodcdgmbhaaaStockLaw
import Derived.Test.YtakdodcdgmbhaaaStkAny
import Derived.StillTailTactics
namespace Go.Proofs.Ytakdodcdgmbhaaa
open Go.RowKit Go.WideShapes
set_option maxRecDepth 100000

/-- What is so of every unit that began with the customer. -/
def OkU (x : Itm) : Prop := (0 ≤ x.place ∧ x.place ≤ 8) ∧ ((x.place = 3 ∨ x.place = 4 ∨ x.place = 5 ∨ x.place = 7) → x.rcv = true ∧ x.grd = true) ∧ (x.grd = true → x.rcv = true) ∧ (x.place = 2 → x.rcv = true)
theorem may_cases {f t : Int} (h : mayB f t = true) : (f = 0 ∧ t = 1) ∨ (f = 1 ∧ t = 2) ∨ (f = 1 ∧ t = 6) ∨ (f = 2 ∧ t = 3) ∨ (f = 2 ∧ t = 4) ∨ (f = 2 ∧ t = 5) ∨ (f = 2 ∧ t = 8) ∨ (f = 3 ∧ t = 7) ∨ (f = 7 ∧ t = 3) ∨ (f = 7 ∧ t = 8) ∨ (f = 8 ∧ t = 0) ∨ (f = 8 ∧ t = 6) := by
  unfold mayB at h
  by_cases f0 : f = 0
  · rw [if_pos f0] at h
    obtain rfl := of_decide_eq_true h
    subst f0; decide
  rw [if_neg f0] at h
  by_cases f1 : f = 1
  · rw [if_pos f1] at h
    rcases of_decide_eq_true h with rfl | rfl <;> (subst f1; decide)
  rw [if_neg f1] at h
  by_cases f2 : f = 2
  · rw [if_pos f2] at h
    rcases of_decide_eq_true h with rfl | rfl | rfl | rfl <;> (subst f2; decide)
  rw [if_neg f2] at h
  by_cases f3 : f = 3
  · rw [if_pos f3] at h
    obtain rfl := of_decide_eq_true h
    subst f3; decide
  rw [if_neg f3] at h
  by_cases f7 : f = 7
  · rw [if_pos f7] at h
    rcases of_decide_eq_true h with rfl | rfl <;> (subst f7; decide)
  rw [if_neg f7] at h
  by_cases f8 : f = 8
  · rw [if_pos f8] at h
    rcases of_decide_eq_true h with rfl | rfl <;> (subst f8; decide)
  rw [if_neg f8] at h
  cases h
theorem okU_moved {x : Itm} {z : Int} (h : OkU x) (hm : mayB x.place z = true) : OkU (x.moved z) := by
  obtain ⟨s, p, r, g⟩ := x
  unfold OkU Itm.moved at *
  dsimp only at *
  rcases may_cases hm with ⟨rfl, rfl⟩ | ⟨rfl, rfl⟩ | ⟨rfl, rfl⟩ | ⟨rfl, rfl⟩ | ⟨rfl, rfl⟩ | ⟨rfl, rfl⟩ | ⟨rfl, rfl⟩ | ⟨rfl, rfl⟩ | ⟨rfl, rfl⟩ | ⟨rfl, rfl⟩ | ⟨rfl, rfl⟩ | ⟨rfl, rfl⟩ <;> cases r <;> cases g <;> simp at *
theorem okU_moves {n : Nat} {u v : Nat → Itm} (h : ∀ k, k < n → OkU (u k)) (hm : Moves n u v) : ∀ k, k < n → OkU (v k) := by
  rcases hm with rfl | ⟨i, z, hi, hz, rfl⟩
  · exact h
  · intro k hk
    unfold putAt
    split
    · exact okU_moved (h i hi) hz
    · exact h k hk

/-- How many units are at the places below q. -/
def sumCnt (u : Nat → Itm) (n : Nat) : Nat → Nat
  | 0 => 0
  | q + 1 => sumCnt u n q + cntTo u n q
theorem sumCnt_zero (u : Nat → Itm) : ∀ q, sumCnt u 0 q = 0
  | 0 => rfl
  | q + 1 => by rw [sumCnt, sumCnt_zero u q]; rfl
theorem sumCnt_succ (u : Nat → Itm) (n : Nat) : ∀ q : Nat, sumCnt u (n + 1) q = sumCnt u n q + if 0 ≤ (u n).place ∧ (u n).place < q then 1 else 0
  | 0 => by rw [sumCnt, sumCnt, if_neg (by omega)]
  | q + 1 => by
    rw [sumCnt, sumCnt, sumCnt_succ u n q, cntTo_succ]
    by_cases e : (u n).place = q
    · have : ((u n).place == (q : Int)) = true := by simpa using e
      rw [this, if_pos rfl, if_neg (by omega), if_pos (by omega)]
      omega
    · have : ((u n).place == (q : Int)) = false := by simpa using e
      rw [this, if_neg (show ¬ (false = true) by decide)]
      by_cases h : 0 ≤ (u n).place ∧ (u n).place < q
      · rw [if_pos h, if_pos (by omega)]; omega
      · rw [if_neg h, if_neg (by omega)]; omega
theorem sumCnt_all (u : Nat → Itm) : ∀ n, (∀ k, k < n → OkU (u k)) → sumCnt u n 9 = n
  | 0, _ => sumCnt_zero u 9
  | n + 1, h => by
    have h1 := (h n (by omega)).1
    rw [sumCnt_succ, sumCnt_all u n (fun k hk => h k (by omega)), if_pos (by omega)]

theorem zero_row (w : World) (n : Nat) (t : TypeId) : IntRow (w.alloc (.cells (reps (#[.int .i64 0] : Array Value).toList (Value.int .i64 0).cells.toList 0 n).toArray t)) (some ⟨w.heap.size, 0, none⟩) n (fun _ => 0) := fun _ => by
  refine ⟨w.heap.size, 0, rfl, by simp, fun k hk => ?_⟩
  rw [Nat.zero_add]
  refine row_cell (heap_alloc_new w _) ?_
  have := rep_get (Value.int .i64 0).cells.toList n k 0 hk (by decide)
  simpa [reps, Value.cells] using this

theorem stockStays_many (a d : Option Addr) (n r ca cd : Nat) (w : World) (h : 200 < n) : Calls Try.prog 4 #[.slice a n ca, .slice d r cd] w fun e w' => e = .returned (.bool true) ∧ Below w.heap.size w w' := by
  have h1 : (200 : Int) < (n : Int) := by omega
  go_enter Try.func4, Try.ntmps4
  go_wp2_with fail
  refine Calls.mono (stk_awake _) ?_
  rintro e w1 ⟨rfl, b1⟩
  go_wp2_with fail
  refine Calls.mono (stk_awake _) ?_
  rintro e w2 ⟨rfl, b2⟩
  go_wp2
  go_ret
  exact ⟨rfl, b1.trans (b2.mono b1.size)⟩
theorem stockStays_long (a d : Option Addr) (n r ca cd : Nat) (w : World) (h : n ≤ 200) (hr : 200 < r) : Calls Try.prog 4 #[.slice a n ca, .slice d r cd] w fun e w' => e = .returned (.bool true) ∧ Below w.heap.size w w' := by
  have h1 : ¬ (200 : Int) < (n : Int) := by omega
  have h2 : (200 : Int) < (r : Int) := by omega
  go_enter Try.func4, Try.ntmps4
  go_wp2_with fail
  refine Calls.mono (stk_awake _) ?_
  rintro e w1 ⟨rfl, b1⟩
  go_wp2_with fail
  refine Calls.mono (stk_awake _) ?_
  rintro e w2 ⟨rfl, b2⟩
  go_wp2
  go_ret
  exact ⟨rfl, b1.trans (b2.mono b1.size)⟩

/-- A stock of units that began with the customer. -/
structure Kept (w W : World) (p G n : Nat) (u : Nat → Itm) : Prop where
  below : Below w.heap.size w W
  stk : StockAt W p G n u
  ge : w.heap.size ≤ G
theorem Kept.next {w W W' : World} {p G n : Nat} {u : Nat → Itm} (h : Kept w W p G n u) (hi : ∀ k, k < n → OkU (u k)) (hd : Done W p G n u W') : ∃ v, Kept w W' p G n v ∧ ∀ k, k < n → OkU (v k) := by
  obtain ⟨v, hm, hs, hu⟩ := hd
  exact ⟨v, ⟨hu.toB h.below h.ge, hs, h.ge⟩, okU_moves hi hm⟩
theorem Kept.more {w W W' : World} {p G n : Nat} {u : Nat → Itm} (h : Kept w W p G n u) (hb : Below W.heap.size W W') : Kept w W' p G n u :=
  ⟨h.below.trans (hb.mono h.below.size), h.stk.below hb, h.ge⟩

set_option maxHeartbeats 8000000 in
theorem stockStays_ok (a d : Option Addr) (n r ca cd : Nat) (s : Nat → Int) (g : Nat → Sct) (w : World) (hn : n ≤ 200) (hr : r ≤ 200) (hs : IntRow w a n s) (hg : ActRow w d r g) :
    Calls Try.prog 4 #[.slice a n ca, .slice d r cd] w fun e w' => e = .returned (.bool true) ∧ Below w.heap.size w w' := by
  have h1 : ¬ (200 : Int) < (n : Int) := by omega
  have h2 : ¬ (200 : Int) < (r : Int) := by omega
  have HS : Aside (IntRow w a n s) := hs
  have HG : Aside (ActRow w d r g) := hg
  clear hs hg
  go_enter Try.func4, Try.ntmps4
  go_wp2_with fail
  refine Calls.mono (stk_awake _) ?_
  rintro e w1 ⟨rfl, b1⟩
  have hmk := make_rows (P := Try.prog) w1 22 3 #[.int .i64 0] (.int .i64 0) 1 8 n Try.underlying22 (by kernel_rfl) rfl (by decide) (by omega) (by omega)
  have hb2 : Below w1.heap.size w1 (w1.alloc (.cells (reps (#[.int .i64 0] : Array Value).toList (Value.int .i64 0).cells.toList 0 n).toArray 3)) := upd_box _
  have HB2 : Aside (Below w.heap.size w (w1.alloc (.cells (reps (#[.int .i64 0] : Array Value).toList (Value.int .i64 0).cells.toList 0 n).toArray 3))) := b1.trans (hb2.mono b1.size)
  have HN : Aside _ := stk_new a (some ⟨w1.heap.size, 0, none⟩) n ca n s (fun _ => 0) _ hn (IntRow.below HS.out HB2.out) (zero_row w1 n 3) (by unfold anyBad; rw [List.any_eq_false]; intro k _; simp [badP])
  clear b1 hb2 HS
  go_wp2_with fail
  refine Calls.mono HN.out ?_
  rintro e w3 ⟨p, G, rfl, s3, b3, -, gG⟩
  have HK : Aside (Kept w w3 p G n (newU s fun _ => 0)) := ⟨HB2.out.trans (b3.mono HB2.out.size), s3, Nat.le_trans HB2.out.size gG⟩
  clear s3 b3 gG HN HB2 hmk
  go_wp2
  go_loopw [39] (fun i wr => ∃ k : Nat, k ≤ r ∧ i = .int .i64 k ∧ ∃ u, Aside (Kept w wr p G n u) ∧ Hid (∀ k, k < n → OkU (u k))) (fun i _ => r - (intOf i).toNat)
  case atStart => exact ⟨0, Nat.zero_le _, rfl, _, HK.out, fun k hk => ⟨⟨Int.le_refl _, by show (0 : Int) ≤ 8; decide⟩, fun h => by simp [newU] at h, fun h => by simp [newU] at h, fun h => by simp [newU] at h⟩⟩
  case round =>
    clear HK
    obtain ⟨k, hk, rfl, u, HK, HI⟩ := hrel
    by_cases hlt : k < r
    · have hkr : (k : Int) < (r : Int) := by omega
      have hk0 : (0 : Int) ≤ (k : Int) := by omega
      obtain ⟨q, o, rfl, lq, cq⟩ := (HG.out : ActRow w d r g) (by omega)
      obtain ⟨x0, x1, x2⟩ := act_all ((cq k hlt).below HK.out.below lq)
      have HPK : Aside (∀ z, _) := fun z => stk_doPick HK.out.stk z
      have HMV : Aside (∀ i z, _) := fun i z => stk_doMove (HK.out.stk.below (Below.refl _ _).drew) i z
      clear cq
      generalize g k = y at *
      obtain ⟨K, A, B⟩ := y
      dsimp only at x0 x1 x2
      go_upto_if 47 with (fail)
      go_cut [] (fun wx => ∃ v, Aside (Kept w wx p G n v) ∧ Hid (∀ k, k < n → OkU (v k)))
      case first =>
        as_aux_lemma =>
          by_cases h3 : 3 < K
          · go_wp2_with fail
            refine Calls.mono (HPK.out A) ?_
            rintro e w5 ⟨⟨i1, i2, rfl⟩, hd⟩
            have HQ : Aside _ := HK.out.next HI.out hd
            clear hd HK HI HPK HMV x0 x1 x2
            go_wp2_with fail
            go_meet
            obtain ⟨v, q1, q2⟩ := HQ.out
            exact ⟨v, q1, q2⟩
          · go_upto_region 11 with (fail)
            go_still_tail 11, (by kernel_rfl)
            change wpList _ _ _ _ _ wr.drew
            have HKd : Aside (Kept w wr.drew p G n u) := HK.out.more (Below.refl _ _).drew
            clear HK x0 x1 x2
            generalize wr.drew = wd at *
            go_wp2_with fail
            refine Calls.mono (HMV.out A B) ?_
            rintro e w5 ⟨⟨i1, rfl⟩, hd⟩
            have HQ : Aside _ := HKd.out.next HI.out hd
            clear hd HKd HI HPK HMV
            go_wp2_with fail
            go_meet
            obtain ⟨v, q1, q2⟩ := HQ.out
            exact ⟨v, q1, q2⟩
      case rest =>
        clear HK HI HPK HMV x0 x1 x2
        obtain ⟨v, HK, HI⟩ := hcut
        go_wp2
        go_loopw [8, 67] (fun vn vi wr => ∃ m q : Nat, q ≤ 9 ∧ m ≤ q * 200 ∧ vi = .int .i64 q ∧ vn = .int .i64 m ∧ Hid (m = sumCnt v n q) ∧ Aside (Kept w wr p G n v)) (fun _ vi _ => 9 - (intOf vi).toNat)
        case atStart => exact ⟨0, 0, Nat.zero_le _, Nat.zero_le _, rfl, rfl, rfl, HK.out⟩
        case round =>
          clear HK
          obtain ⟨m, q, hq, hm, rfl, rfl, HM, HK⟩ := hrel
          by_cases hlq : q < 9
          · have hq9 : (q : Int) < 9 := by omega
            have hq0 : (0 : Int) ≤ (q : Int) := by omega
            have HC : Aside _ := stk_count HK.out.stk q
            have hc : cntTo v n q ≤ 200 := Nat.le_trans (cntTo_le v n q) hn
            have HM2 : Hid (m + cntTo v n q = sumCnt v n (q + 1)) := by show _ = _; rw [sumCnt, HM.out]
            generalize cntTo v n q = C at *
            go_wp2_with fail
            refine Calls.mono HC.out ?_
            rintro e w8 ⟨rfl, b8⟩
            have HK8 : Aside _ := HK.out.more b8
            clear b8 HK HC HM
            go_wp2
            go_roundw
            case rel => exact ⟨m + C, q + 1, by omega, by omega, by go_num, by go_num, HM2.out, HK8.out⟩
            case measure => simp [intOf]; omega
          · obtain rfl : q = 9 := by omega
            obtain rfl : m = n := by rw [HM.out]; exact sumCnt_all v n HI.out
            clear HM
            go_wp2
            go_roundw
            case rel => exact ⟨k + 1, by omega, by go_num, v, HK.out, HI.out⟩
            case measure => simp [intOf]; omega
    · obtain rfl : k = r := by omega
      go_wp2
      go_loopw [83] (fun i wr => ∃ k : Nat, k ≤ n ∧ i = .int .i64 k ∧ Aside (Kept w wr p G n u)) (fun i _ => n - (intOf i).toNat)
      case atStart => exact ⟨0, Nat.zero_le _, rfl, HK.out⟩
      case round =>
        clear HK
        obtain ⟨t, ht, rfl, HK⟩ := hrel
        by_cases hlt2 : t < n
        · have htn : (t : Int) < (n : Int) := by omega
          have ht0 : (0 : Int) ≤ (t : Int) := by omega
          have HSE : Aside _ := stk_seen HK.out.stk hlt2
          have hok := HI.out t hlt2
          have HPL : Aside (∀ W, Below wr.heap.size wr W → _) := fun W h => stk_place (HK.out.stk.below h) hlt2
          unfold OkU at hok
          go_wp2_with fail
          refine Calls.mono HSE.out ?_
          rintro e w5 ⟨rfl, b5⟩
          have HPL5 : Aside _ := HPL.out _ b5
          have HK5 : Aside _ := HK.out.more b5
          clear b5 HSE HPL HK
          generalize (u t).place = pl at *
          generalize (u t).rcv = rc at *
          generalize (u t).grd = gr at *
          obtain ⟨-, hk1, hk2, -⟩ := hok
          go_wp2_with fail
          refine Calls.mono HPL5.out ?_
          rintro e w6 ⟨rfl, rfl⟩
          clear HPL5
          have key : ((pl = 3 ∨ pl = 4 ∨ pl = 5 ∨ pl = 7) ∧ rc = true ∧ gr = true) ∨ ((pl == 3) = false ∧ (pl == 4) = false ∧ (pl == 5) = false ∧ (pl == 7) = false ∧ ((rc = true ∧ gr = true) ∨ gr = false)) := by
            by_cases h : pl = 3 ∨ pl = 4 ∨ pl = 5 ∨ pl = 7
            · exact .inl ⟨h, hk1 h⟩
            · refine .inr ⟨by simp; omega, by simp; omega, by simp; omega, by simp; omega, ?_⟩
              cases gr
              · exact .inr rfl
              · exact .inl ⟨hk2 rfl, rfl⟩
          clear hk1 hk2
          rcases key with ⟨rfl | rfl | rfl | rfl, rfl, rfl⟩ | ⟨e3, e4, e5, e7, ⟨rfl, rfl⟩ | rfl⟩
          all_goals
            go_wp2
            go_roundw
            case rel => exact ⟨t + 1, by omega, by go_num, HK5.out⟩
            case measure => simp [intOf]; omega
        · obtain rfl : t = n := by omega
          go_wp2
          go_ret
          exact ⟨rfl, HK.out.below⟩

theorem stockStays_law (a d : Option Addr) (n r ca cd : Nat) (s : Nat → Int) (g : Nat → Sct) (w : World) (hs : IntRow w a n s) (hg : ActRow w d r g) :
    Calls Try.prog 4 #[.slice a n ca, .slice d r cd] w fun e w' => e = .returned (.bool true) ∧ Below w.heap.size w w' := by
  by_cases h1 : 200 < n
  · exact stockStays_many a d n r ca cd w h1
  by_cases h2 : 200 < r
  · exact stockStays_long a d n r ca cd w (by omega) h2
  exact stockStays_ok a d n r ca cd s g w (by omega) (by omega) hs hg

theorem stockStays_contract (W : World) (args : Array Value) (h : Each Try.prog W Try.f4.params.toList args.toList) :
    Calls Try.prog 4 args W fun e W' => e = .returned (.bool true) ∧ Below W.heap.size W W' := by
  rw [Try.params4] at h
  obtain ⟨v0, r0, e0, ⟨_, o0⟩, d0, h⟩ := h.cons
  obtain ⟨v1, r1, rfl, ⟨_, o1⟩, d1, h⟩ := h.cons
  obtain rfl := h.nil
  obtain ⟨args⟩ := args
  obtain rfl : args = [v0, v1] := e0
  obtain ⟨sa0, sn0, sc0, rfl, hsc0⟩ := val_slice o0 Try.underlying22
  rw [hsc0] at d0
  obtain ⟨a0', c0', xs0, e0, hl0, hm0, hx0⟩ := d0.ints Try.underlying22 Try.underlying3 (by kernel_rfl)
  injection e0 with e0 _
  injection e0 with e10 e20 e30
  subst e10 e20 e30
  have hi0 := IsInts.row hx0
  obtain ⟨sa1, sn1, sc1, rfl, hsc1⟩ := val_slice o1 Try.underlying23
  rw [hsc1] at d1
  obtain ⟨g1, hg1⟩ := acts_of d1
  exact stockStays_law _ _ _ _ _ _ _ g1 W hi0 hg1

theorem stockStays_lifted (os : Os) (started : os.Started) (H : Type) (enc : TypeId × Value → H) :
    ReturnsInHanded {} Try.checked os 4 .any (Rows.stockStaysSpec.pre6 enc Try.prog Try.f4 Rows.stockStaysRow.domain false) (Rows.stockStaysSpec.post enc Try.prog Try.f4 false true false false) :=
  law_lifted (C := Try.checked) seat_own seat_laid (by kernel_rfl) Try.func4 rfl (tb := 4) rfl Try.underlying4
    (by
      rw [Try.params4]; intro t ht; simp at ht
      rcases ht with rfl | rfl <;> exact ⟨by kernel_rfl, of_decide_eq_true (by kernel_rfl)⟩)
    (fun H ds hl => by
      rw [Try.params4] at hl
      match ds, hl with
      | [d1, d2], _ => rfl)
    os started H enc
    (ChangeSpec.witness6 (enc := enc) (C := Try.checked) false ⟨#[], #[.slice none 0 0, .slice none 0 0], []⟩ 8 (by kernel_rfl) (by kernel_rfl) (by kernel_rfl) (by kernel_rfl))
    stockStays_contract

theorem stockStays_holds : Rows.StockStaysSaid :=
  OpenClaim.holds_of_wide 4 Try.f4 rfl rfl rfl rfl rfl rfl rfl ⟨rfl, rfl, rfl, rfl, rfl⟩ rfl rfl rfl rfl rfl (by kernel_rfl) Try.func4 (by kernel_rfl)
    (of_decide_eq_true (by kernel_rfl)) (by unfold Func.isWrapper; first | (rw [if_pos (by decide +kernel)]; kernel_rfl) | (rw [if_neg (by decide +kernel)]; exact ⟨rfl, rfl⟩))
    (fun os started H enc _ => stockStays_lifted os started H enc)
#print axioms stockStays_holds
end Go.Proofs.Ytakdodcdgmbhaaa
