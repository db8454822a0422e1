/-
  Package stock: arePlaces, New. Conditions: those of each theorem.
-/
import Derived.Test.YtakdodcdgmbhaaaStk
import Derived.Test.YtakdodcdgmbhaaaFinds
namespace Go.Proofs.Ytakdodcdgmbhaaa
open Go.RowKit
set_option maxRecDepth 100000

/-- No place. -/
def badP (v : Int) : Bool := decide (v < 0) || decide (8 < v)
def anyBad (f : Nat → Int) (n : Nat) : Bool := (List.range n).any fun k => badP (f k)
theorem anyBad_no {f : Nat → Int} {n : Nat} (h : anyBad f n = false) {k : Nat} (hk : k < n) : 0 ≤ f k ∧ f k ≤ 8 := by
  unfold anyBad at h
  rw [List.any_eq_false] at h
  have := h k (List.mem_range.2 hk)
  simp only [badP, Bool.or_eq_true, decide_eq_true_eq] at this
  omega
theorem anyBad_yes {f : Nat → Int} {n k : Nat} (hk : k < n) (h : badP (f k) = true) : anyBad f n = true := by
  unfold anyBad
  rw [List.any_eq_true]
  exact ⟨k, List.mem_range.2 hk, h⟩

theorem stk_noPlace (v : Int) (w : World) : Calls Try.prog 29 #[.int .i64 v] w fun e w' => e = .returned (.bool (badP v)) ∧ w' = w := by
  unfold badP
  by_cases h1 : v < 0
  · rw [decide_eq_true h1, Bool.true_or]
    go_enter Try.func29, Try.ntmps29
    go_wp2
    go_ret
    exact ⟨rfl, rfl⟩
  · rw [decide_eq_false h1, Bool.false_or]
    by_cases h2 : 8 < v
    · rw [decide_eq_true h2]
      go_enter Try.func29, Try.ntmps29
      go_wp2
      go_ret
      exact ⟨by simp, rfl⟩
    · rw [decide_eq_false h2]
      go_enter Try.func29, Try.ntmps29
      go_wp2
      go_ret
      exact ⟨by simp, rfl⟩
theorem stk_arePlaces (a : Option Addr) (n c : Nat) (f : Nat → Int) (w : World) (hm : n ≤ 1000) (hr : IntRow w a n f) : Calls Try.prog 20 #[.slice a n c] w fun e w' => e = .returned (.bool (!anyBad f n)) ∧ Below w.heap.size w w' := by
  have H : Aside _ := contains_any 29 badP f a n c w hm hr (fun _ _ => rfl) stk_noPlace
  rw [show ((List.range n).any fun k => badP (f k)) = anyBad f n from rfl] at H
  clear hr
  generalize anyBad f n = q at *
  go_enter Try.func20, Try.ntmps20
  go_wp2_with fail
  refine Calls.mono H.out ?_
  rintro e w1 ⟨rfl, b1⟩
  have HB : Aside _ := b1
  clear b1
  go_wp2
  go_ret
  exact ⟨rfl, HB.out⟩

/-- A row of n things of four cells of the call's own, of which k are laid. -/
structure Laid4 (t : TypeId) (w W : World) (G n k : Nat) (f : Nat → Array Value) : Prop where
  below : Below w.heap.size w W
  ge : w.heap.size ≤ G
  blk : ∃ cur, W.heap[G]? = some (.cells cur t (0, 0)) ∧ cur.size = n * 4
  row : ∀ i, i < k → ArrAt W G (i * 4) (f i)
section
variable {t : TypeId} {w W : World} {G n k : Nat} {f : Nat → Array Value}
theorem Laid4.there (h : Laid4 t w W G n k f) (i : Nat) (hi : i < n) : W.there G (i * 4) 4 := fun j hj => by
  obtain ⟨cur, h1, h2⟩ := h.blk
  have : i * 4 + j < cur.size := by omega
  constructor
  · rw [cell_of_row W G _ cur _ _ h1, Array.getElem?_eq_getElem this]; rfl
  · simp [World.frozen?, h1]
theorem Laid4.put (h : Laid4 t w W G n k f) (hf : ∀ i, (f i).size = 4) (hk : k < n) : Laid4 t w (W.setCells G (k * 4) (f k).toList) G n (k + 1) f := by
  have hu := upd_setCells G (f k).toList (k * 4) W
  have hge := h.ge
  have hlt : G < W.heap.size := by obtain ⟨cur, h1, _⟩ := h.blk; exact (Array.getElem?_eq_some_iff.1 h1).1
  refine ⟨(Upd.trans (S := fun k => w.heap.size ≤ k) (Upd.below h.below) hu (fun j _ e => by rw [e]; exact hge)).toBelow (Nat.le_refl _) (fun j hj x => by omega), hge, block_setCells G _ _ _ _ _ h.blk, fun i hi => ?_⟩
  by_cases e : i = k
  · subst e
    refine ⟨Nat.lt_of_lt_of_le hlt hu.size, fun j v hj => ?_⟩
    have hr := World.rangeAt_setCells_same W G (i * 4) (f i).toList (by
      have h9 := h.there i hk
      rw [← hf i] at h9 ⊢
      simpa using h9)
    exact hr j v (by simpa using hj)
  · refine (h.row i (by omega)).setCells _ ?_
    rw [hf i]
    omega
theorem Laid4.row4 (h : Laid4 t w W G n n f) : Row4 W G n f := by
  obtain ⟨cur, h1, h2⟩ := h.blk
  exact ⟨(Array.getElem?_eq_some_iff.1 h1).1, h.row, fun j => by simp [World.frozen?, h1]⟩
end
theorem info_item : (Try.prog.info? 52).map (fun i => (i.zero, i.size, i.bytes)) = some (some (.agg #[.int .i64 0, .int .i64 0, .bool false, .bool false]), 4, 24) := by kernel_rfl
theorem itm_one (x : Itm) : ∀ v ∈ x.arr.toList, v.oneCell' = true := by
  intro v hv
  simp only [Itm.arr, List.mem_cons, List.not_mem_nil, or_false] at hv
  rcases hv with rfl | rfl | rfl | rfl <;> rfl
/-- The units that New makes. -/
def newU (s p : Nat → Int) : Nat → Itm := fun k => ⟨s k, p k, false, false⟩

theorem stk_new_len (a b : Option Addr) (n m c d : Nat) (w : World) (hm : ¬ n = m) : Calls Try.prog 8 #[.slice a n c, .slice b m d] w fun e w' => e = .returned (.tuple #[.pointer none, .int .i64 1]) ∧ w' = w := by
  have h1 : ((n : Int) == (m : Int)) = false := by simp; omega
  go_enter Try.func8, Try.ntmps8
  go_wp2
  go_ret2
  exact ⟨rfl, rfl⟩
theorem stk_new_many (a b : Option Addr) (n c d : Nat) (w : World) (hm : 200 < n) : Calls Try.prog 8 #[.slice a n c, .slice b n d] w fun e w' => e = .returned (.tuple #[.pointer none, .int .i64 1]) ∧ w' = w := by
  have h1 : (200 : Int) < (n : Int) := by omega
  go_enter Try.func8, Try.ntmps8
  go_wp2
  go_ret2
  exact ⟨rfl, rfl⟩
theorem stk_new_place (a b : Option Addr) (n c d : Nat) (f : Nat → Int) (w : World) (hm : n ≤ 200) (hr : IntRow w b n f) (hb : anyBad f n = true) : Calls Try.prog 8 #[.slice a n c, .slice b n d] w fun e w' => e = .returned (.tuple #[.pointer none, .int .i64 1]) ∧ Below w.heap.size w w' := by
  have H : Aside _ := stk_arePlaces b n d f w (by omega) hr
  rw [hb] at H
  have h1 : ¬ (200 : Int) < (n : Int) := by omega
  clear hr hb
  go_enter Try.func8, Try.ntmps8
  go_wp2_with fail
  refine Calls.mono H.out ?_
  rintro e w1 ⟨rfl, b1⟩
  have HB : Aside _ := b1
  clear b1
  go_wp2
  go_ret2
  exact ⟨rfl, HB.out⟩

set_option maxHeartbeats 4000000 in
theorem stk_new (a b : Option Addr) (n c d : Nat) (s f : Nat → Int) (w : World) (hm : n ≤ 200) (hs : IntRow w a n s) (hr : IntRow w b n f) (hb : anyBad f n = false) :
    Calls Try.prog 8 #[.slice a n c, .slice b n d] w fun e w' => ∃ p G, e = .returned (.tuple #[.pointer (some ⟨p, 0, none⟩), .int .i64 0]) ∧ StockAt w' p G n (newU s f) ∧ Below w.heap.size w w' ∧ w.heap.size ≤ p ∧ w.heap.size ≤ G := by
  have H : Aside _ := stk_arePlaces b n d f w (by omega) hr
  rw [hb] at H
  have h1 : ¬ (200 : Int) < (n : Int) := by omega
  have HSK : Aside _ := hs
  have HPL : Aside _ := hr
  clear hr hs hb
  go_enter Try.func8, Try.ntmps8
  go_wp2_with fail
  refine Calls.mono H.out ?_
  rintro e w1 ⟨rfl, b1⟩
  have HB : Aside (Below w.heap.size w w1) := b1
  have hmk := make_rows (P := Try.prog) w1 50 52 #[.int .i64 0, .int .i64 0, .bool false, .bool false] (.agg #[.int .i64 0, .int .i64 0, .bool false, .bool false]) 4 24 n Try.underlying50 info_item rfl (by decide) (by omega) (by omega)
  have HL0 : Aside (Laid4 52 w1 (w1.alloc (.cells (reps (#[.int .i64 0, .int .i64 0, .bool false, .bool false] : Array Value).toList (#[.int .i64 0, .int .i64 0, .bool false, .bool false] : Array Value).toList 0 n).toArray 52)) w1.heap.size n 0 (fun k => (newU s f k).arr)) :=
    ⟨upd_box _, Nat.le_refl _, blk_made w1 #[.int .i64 0, .int .i64 0, .bool false, .bool false] 4 n rfl _, fun i hi => absurd hi (Nat.not_lt_zero _)⟩
  have hg := b1.size
  clear b1 H
  go_upto_region 4 with (fail)
  clear hmk
  show Code.wp _ _ _ _ (w1.alloc (.cells (reps (#[.int .i64 0, .int .i64 0, .bool false, .bool false] : Array Value).toList (#[.int .i64 0, .int .i64 0, .bool false, .bool false] : Array Value).toList 0 n).toArray 52))
  generalize w1.alloc (.cells (reps (#[.int .i64 0, .int .i64 0, .bool false, .bool false] : Array Value).toList (#[.int .i64 0, .int .i64 0, .bool false, .bool false] : Array Value).toList 0 n).toArray 52) = w3 at *
  have HGS : Hid (w.heap.size ≤ w1.heap.size) := hg
  clear hg
  obtain ⟨G, hG⟩ : ∃ G, G = w1.heap.size := ⟨_, rfl⟩
  rw [← hG] at HL0 HGS ⊢
  clear hG
  go_wp2
  go_loopw [29] (fun i wr => ∃ k : Nat, k ≤ n ∧ i = .int .i64 k ∧ Aside (Laid4 52 w1 wr G n k (fun k => (newU s f k).arr))) (fun i _ => n - (intOf i).toNat)
  case atStart => exact ⟨0, Nat.zero_le _, rfl, HL0.out⟩
  case round =>
    clear HL0
    obtain ⟨k, hk, rfl, HL⟩ := hrel
    by_cases hlt : k < n
    · have hkn : (k : Int) < (n : Int) := by omega
      have hn0 : 0 < n := by omega
      have hbw : Below w.heap.size w wr := HB.out.trans (HL.out.below.mono HB.out.size)
      obtain ⟨q1, o1, rfl, l1, c1⟩ := IntRow.below HSK.out hbw hn0
      obtain ⟨q2, o2, rfl, l2, c2⟩ := IntRow.below HPL.out hbw hn0
      have x1 := c1 k hlt
      have x2 := c2 k hlt
      have ht := HL.out.there k hlt
      obtain ⟨v0, e0⟩ := Option.isSome_iff_exists.1 (ht 0 (by decide)).1
      obtain ⟨v1, e1⟩ := Option.isSome_iff_exists.1 (ht 1 (by decide)).1
      obtain ⟨v2, e2⟩ := Option.isSome_iff_exists.1 (ht 2 (by decide)).1
      obtain ⟨v3, e3⟩ := Option.isSome_iff_exists.1 (ht 3 (by decide)).1
      have g0 := (ht 0 (by decide)).2
      have g1 := (ht 1 (by decide)).2
      have g2 := (ht 2 (by decide)).2
      have g3 := (ht 3 (by decide)).2
      simp only [Nat.add_zero] at e0 g0
      have HL2 : Aside (Laid4 52 w1 (wr.setCells G (k * 4) [.int .i64 (s k), .int .i64 (f k), .bool false, .bool false]) G n (k + 1) (fun k => (newU s f k).arr)) := HL.out.put (fun i => rfl) hlt
      clear c1 c2 HL hbw ht
      go_wp2
      go_roundw
      case rel => exact ⟨k + 1, by omega, by go_num, HL2.out⟩
      case measure => simp [intOf]; omega
    · obtain rfl : k = n := by omega
      have HN : Aside (Below wr.heap.size wr (wr.alloc (.cells #[.slice (some ⟨G, 0, none⟩) k k] 54))) := upd_box _
      have HS : Aside (StockAt (wr.alloc (.cells #[.slice (some ⟨G, 0, none⟩) k k] 54)) wr.heap.size G k (newU s f)) := by
        have hr := HL.out.row4
        exact ⟨by simp, ⟨some ⟨G, 0, none⟩, k, by simp, fun _ => rfl, fun e => by cases e⟩, fun _ => hr.below HN.out, hm, fun _ e => by have := hr.lt; omega⟩
      have HF : Aside (Below w.heap.size w (wr.alloc (.cells #[.slice (some ⟨G, 0, none⟩) k k] 54))) := (HB.out.trans (HL.out.below.mono HB.out.size)).trans (HN.out.mono (Nat.le_trans HB.out.size HL.out.below.size))
      have HQ : Hid (w.heap.size ≤ wr.heap.size) := Nat.le_trans HB.out.size HL.out.below.size
      clear HN HL
      go_wp2
      go_ret2
      exact ⟨_, G, rfl, HS.out, HF.out, HQ.out, HGS.out⟩
end Go.Proofs.Ytakdodcdgmbhaaa
