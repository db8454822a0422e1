/-
  Package stock: a stock in memory; has, Len, Place, SKU, Seen, Count, Move. Conditions: those of each theorem.
-/
import Derived.Test.YtakdodcdgmbhaaaRowX
import Derived.Test.YtakdodcdgmbhaaaStkMay
namespace Go.Proofs.Ytakdodcdgmbhaaa
open Go.RowKit
set_option maxRecDepth 100000

/-- A unit. -/
structure Itm where
  sku : Int
  place : Int
  rcv : Bool
  grd : Bool
def Itm.arr (x : Itm) : Array Value := #[.int .i64 x.sku, .int .i64 x.place, .bool x.rcv, .bool x.grd]
def Itm.moved (x : Itm) (z : Int) : Itm := ⟨x.sku, z, x.rcv || (x.place == 1 && z == 2), x.grd || x.place == 2⟩
/-- One of them is another. -/
def putAt (u : Nat → Itm) (k : Nat) (x : Itm) : Nat → Itm := fun i => if i = k then x else u i

/-- A row of n things of four cells. -/
structure Row4 (w : World) (G n : Nat) (f : Nat → Array Value) : Prop where
  lt : G < w.heap.size
  row : ∀ k, k < n → ArrAt w G (k * 4) (f k)
  fz : ∀ j, w.frozen? ⟨G, j, none⟩ = false
theorem Row4.upd {S : Nat → Prop} {w w' : World} {G n : Nat} {f : Nat → Array Value} (h : Row4 w G n f) (hu : Upd S w w') (hn : ¬ S G) : Row4 w' G n f :=
  ⟨Nat.lt_of_lt_of_le h.lt hu.size, fun k hk => (h.row k hk).upd hu hn, fun j => (hu.frozen (p := ⟨G, j, none⟩) h.lt hn).trans (h.fz j)⟩
theorem Row4.below {w w' : World} {G n : Nat} {f : Nat → Array Value} (h : Row4 w G n f) (hb : Below w.heap.size w w') : Row4 w' G n f :=
  h.upd (S := fun _ => False) (Upd.below hb) (fun x => x)
theorem Row4.put {w w' : World} {G n : Nat} {f : Nat → Array Value} (h : Row4 w G n f) (hf : ∀ i, (f i).size = 4) (k : Nat) (x : Array Value) (hs : w.heap.size ≤ w'.heap.size)
    (hc : ∀ o, (o < k * 4 ∨ k * 4 + 4 ≤ o) → w'.cell? ⟨G, o, none⟩ = w.cell? ⟨G, o, none⟩) (hx : ∀ j v, x[j]? = some v → w'.cell? ⟨G, k * 4 + j, none⟩ = some v) (hz : ∀ j, w'.frozen? ⟨G, j, none⟩ = w.frozen? ⟨G, j, none⟩) :
    Row4 w' G n (fun i => if i = k then x else f i) := by
  have hl : G < w'.heap.size := Nat.lt_of_lt_of_le h.lt hs
  refine ⟨hl, fun i hi => ⟨hl, fun j v hj => ?_⟩, fun j => (hz j).trans (h.fz j)⟩
  by_cases e : i = k
  · subst e
    rw [if_pos rfl] at hj
    exact hx j v hj
  · rw [if_neg e] at hj
    have hj4 : j < 4 := by rw [← hf i]; exact (Array.getElem?_eq_some_iff.1 hj).1
    rw [hc _ (by omega)]
    exact (h.row i hi).cells j v hj

/-- A stock: the box p has a row of n units in block G. -/
structure StockAt (w : World) (p G n : Nat) (u : Nat → Itm) : Prop where
  lt : p < w.heap.size
  box : ∃ a c, w.cell? ⟨p, 0, none⟩ = some (.slice a n c) ∧ (0 < n → a = some ⟨G, 0, none⟩) ∧ (a = none → n = 0)
  row : 0 < n → Row4 w G n (fun k => (u k).arr)
  few : n ≤ 200
  ne : 0 < n → p ≠ G
theorem StockAt.upd {S : Nat → Prop} {w w' : World} {p G n : Nat} {u : Nat → Itm} (h : StockAt w p G n u) (hu : Upd S w w') (hp : ¬ S p) (hG : 0 < n → ¬ S G) : StockAt w' p G n u := by
  obtain ⟨a, c, h1, h2⟩ := h.box
  exact ⟨Nat.lt_of_lt_of_le h.lt hu.size, ⟨a, c, (hu.cell (p := ⟨p, 0, none⟩) h.lt hp).trans h1, h2⟩, fun hn => (h.row hn).upd hu (hG hn), h.few, h.ne⟩
theorem StockAt.below {w w' : World} {p G n : Nat} {u : Nat → Itm} (h : StockAt w p G n u) (hb : Below w.heap.size w w') : StockAt w' p G n u :=
  h.upd (S := fun _ => False) (Upd.below hb) (fun x => x) (fun _ x => x)
/-- What is read of a unit. -/
theorem StockAt.reads {w : World} {p G n : Nat} {u : Nat → Itm} (h : StockAt w p G n u) {k : Nat} (hk : k < n) :
    (∃ c, w.cell? ⟨p, 0, none⟩ = some (.slice (some ⟨G, 0, none⟩) n c)) ∧ w.cell? ⟨G, k * 4, none⟩ = some (.int .i64 (u k).sku) ∧ w.cell? ⟨G, k * 4 + 1, none⟩ = some (.int .i64 (u k).place) ∧ w.cell? ⟨G, k * 4 + 2, none⟩ = some (.bool (u k).rcv) ∧ w.cell? ⟨G, k * 4 + 3, none⟩ = some (.bool (u k).grd) := by
  have h0 : 0 < n := by omega
  obtain ⟨a, c, h1, h2, -⟩ := h.box
  rw [h2 h0] at h1
  have hr := ((h.row h0).row k hk).cells
  exact ⟨⟨c, h1⟩, hr 0 _ rfl, hr 1 _ rfl, hr 2 _ rfl, hr 3 _ rfl⟩

theorem stk_len {w : World} {p G n : Nat} {u : Nat → Itm} (h : StockAt w p G n u) : Calls Try.prog 26 #[.pointer (some ⟨p, 0, none⟩)] w fun e w' => e = .returned (.int .i64 n) ∧ w' = w := by
  obtain ⟨a, c, h1, -⟩ := h.box
  have hn := h.few
  clear h
  go_enter Try.func26, Try.ntmps26
  go_wp2
  go_ret
  exact ⟨rfl, rfl⟩

theorem stk_has {w : World} {p G n : Nat} {u : Nat → Itm} (h : StockAt w p G n u) (i : Int) : Calls Try.prog 23 #[.pointer (some ⟨p, 0, none⟩), .int .i64 i] w fun e w' => e = .returned (.bool (decide (0 ≤ i ∧ i < n))) ∧ w' = w := by
  have HL : Aside _ := stk_len h
  clear h
  by_cases h0 : 0 ≤ i
  · by_cases h1 : i < (n : Int)
    · rw [decide_eq_true ⟨h0, h1⟩]
      go_enter Try.func23, Try.ntmps23
      go_wp2_with fail
      refine Calls.mono HL.out ?_
      rintro e w1 ⟨rfl, rfl⟩
      go_wp2
      go_ret
      exact ⟨rfl, rfl⟩
    · rw [decide_eq_false (fun x => h1 x.2)]
      go_enter Try.func23, Try.ntmps23
      go_wp2_with fail
      refine Calls.mono HL.out ?_
      rintro e w1 ⟨rfl, rfl⟩
      go_wp2
      go_ret
      exact ⟨by simp; omega, rfl⟩
  · rw [decide_eq_false (fun x => h0 x.1)]
    go_enter Try.func23, Try.ntmps23
    go_wp2
    go_ret
    exact ⟨rfl, rfl⟩
theorem stk_has_in {w : World} {p G n : Nat} {u : Nat → Itm} (h : StockAt w p G n u) {k : Nat} (hk : k < n) : Calls Try.prog 23 #[.pointer (some ⟨p, 0, none⟩), .int .i64 k] w fun e w' => e = .returned (.bool true) ∧ w' = w := by
  have := stk_has h k
  rwa [decide_eq_true (by omega)] at this
theorem stk_has_out {w : World} {p G n : Nat} {u : Nat → Itm} (h : StockAt w p G n u) {i : Int} (hi : ¬ (0 ≤ i ∧ i < n)) : Calls Try.prog 23 #[.pointer (some ⟨p, 0, none⟩), .int .i64 i] w fun e w' => e = .returned (.bool false) ∧ w' = w := by
  have := stk_has h i
  rwa [decide_eq_false hi] at this

theorem stk_place {w : World} {p G n : Nat} {u : Nat → Itm} (h : StockAt w p G n u) {k : Nat} (hk : k < n) : Calls Try.prog 16 #[.pointer (some ⟨p, 0, none⟩), .int .i64 k] w fun e w' => e = .returned (.int .i64 (u k).place) ∧ w' = w := by
  have HH : Aside _ := stk_has_in h hk
  obtain ⟨⟨c, h0⟩, -, h1, -, -⟩ := h.reads hk
  have hn := h.few
  clear h
  generalize (u k).place = v at *
  go_enter Try.func16, Try.ntmps16
  go_wp2_with fail
  refine Calls.mono HH.out ?_
  rintro e w1 ⟨rfl, rfl⟩
  go_wp2
  go_ret
  exact ⟨rfl, rfl⟩
theorem stk_place_out {w : World} {p G n : Nat} {u : Nat → Itm} (h : StockAt w p G n u) {i : Int} (hi : ¬ (0 ≤ i ∧ i < n)) : Calls Try.prog 16 #[.pointer (some ⟨p, 0, none⟩), .int .i64 i] w fun e w' => e = .returned (.int .i64 (-1)) ∧ w' = w := by
  have HH : Aside _ := stk_has_out h hi
  clear h hi
  go_enter Try.func16, Try.ntmps16
  go_wp2_with fail
  refine Calls.mono HH.out ?_
  rintro e w1 ⟨rfl, rfl⟩
  go_wp2
  go_ret
  exact ⟨rfl, rfl⟩
theorem stk_sku {w : World} {p G n : Nat} {u : Nat → Itm} (h : StockAt w p G n u) {k : Nat} (hk : k < n) : Calls Try.prog 25 #[.pointer (some ⟨p, 0, none⟩), .int .i64 k] w fun e w' => e = .returned (.int .i64 (u k).sku) ∧ w' = w := by
  have HH : Aside _ := stk_has_in h hk
  obtain ⟨⟨c, h0⟩, h1, -, -, -⟩ := h.reads hk
  have hn := h.few
  clear h
  generalize (u k).sku = v at *
  go_enter Try.func25, Try.ntmps25
  go_wp2_with fail
  refine Calls.mono HH.out ?_
  rintro e w1 ⟨rfl, rfl⟩
  go_wp2
  go_ret
  exact ⟨rfl, rfl⟩
theorem stk_sku_out {w : World} {p G n : Nat} {u : Nat → Itm} (h : StockAt w p G n u) {i : Int} (hi : ¬ (0 ≤ i ∧ i < n)) : Calls Try.prog 25 #[.pointer (some ⟨p, 0, none⟩), .int .i64 i] w fun e w' => e = .returned (.int .i64 (-1)) ∧ w' = w := by
  have HH : Aside _ := stk_has_out h hi
  clear h hi
  go_enter Try.func25, Try.ntmps25
  go_wp2_with fail
  refine Calls.mono HH.out ?_
  rintro e w1 ⟨rfl, rfl⟩
  go_wp2
  go_ret
  exact ⟨rfl, rfl⟩
theorem stk_seen {w : World} {p G n : Nat} {u : Nat → Itm} (h : StockAt w p G n u) {k : Nat} (hk : k < n) : Calls Try.prog 15 #[.pointer (some ⟨p, 0, none⟩), .int .i64 k] w fun e w' => e = .returned (.tuple #[.bool (u k).rcv, .bool (u k).grd]) ∧ Below w.heap.size w w' := by
  have HH : Aside _ := stk_has_in h hk
  obtain ⟨⟨c, h0⟩, -, -, h2, h3⟩ := h.reads hk
  have hn := h.few
  clear h
  generalize (u k).rcv = v at *
  generalize (u k).grd = v2 at *
  go_enter Try.func15, Try.ntmps15
  go_wp2_with fail
  refine Calls.mono HH.out ?_
  rintro e w1 ⟨rfl, rfl⟩
  go_wp2
  go_region
  go_wp2
  go_ret2
  exact ⟨rfl, below_drawn (Below.refl _ _) _⟩

/-- How many units are at a place. -/
def cntTo (u : Nat → Itm) (n : Nat) (q : Int) : Nat := (List.range n).countP fun k => (u k).place == q
theorem cntTo_succ (u : Nat → Itm) (n : Nat) (q : Int) : cntTo u (n + 1) q = cntTo u n q + if (u n).place == q then 1 else 0 := by
  unfold cntTo
  rw [List.range_succ, List.countP_append]
  simp [List.countP_cons]
theorem cntTo_le (u : Nat → Itm) (n : Nat) (q : Int) : cntTo u n q ≤ n := by
  have := List.countP_le_length (p := fun k => (u k).place == q) (l := List.range n)
  simpa [cntTo] using this

set_option maxHeartbeats 1000000 in
theorem stk_count {w : World} {p G n : Nat} {u : Nat → Itm} (h : StockAt w p G n u) (q : Int) : Calls Try.prog 14 #[.pointer (some ⟨p, 0, none⟩), .int .i64 q] w fun e w' => e = .returned (.int .i64 (cntTo u n q)) ∧ Below w.heap.size w w' := by
  obtain ⟨a, c, h0, h1, -⟩ := h.box
  have hn := h.few
  have HR : Aside (0 < n → Row4 w G n (fun k => (u k).arr)) := h.row
  clear h
  go_enter Try.func14, Try.ntmps14
  go_wp2
  go_loopw [5, 15] (fun s i wr => ∃ k m : Nat, k ≤ n ∧ m ≤ k ∧ i = .int .i64 k ∧ s = .int .i64 m ∧ Hid (m = cntTo u k q) ∧ Aside (Below w.heap.size w wr)) (fun _ i _ => n - (intOf i).toNat)
  case atStart => exact ⟨0, 0, Nat.zero_le _, Nat.le_refl _, rfl, rfl, rfl, Below.refl _ _⟩
  case round =>
    obtain ⟨k, m, hk, hm, rfl, rfl, HM, HB⟩ := hrel
    by_cases hlt : k < n
    · have hkn : (k : Int) < (n : Int) := by omega
      have hn0 : 0 < n := by omega
      obtain rfl := h1 hn0
      have hr := ((HR.out hn0).below HB.out).row k hlt
      have HB1 : Aside (Below w.heap.size w (wr.alloc (.cells (u k).arr 52))) := HB.out.alloc HB.out.size _
      have HA1 : Aside (ArrAt (wr.alloc (.cells (u k).arr 52)) wr.heap.size 0 (u k).arr) := arr_new wr _ _
      have z0 : wr.cell? ⟨G, k * 4, none⟩ = some (.int .i64 (u k).sku) := hr.cells 0 _ rfl
      have z1 : wr.cell? ⟨G, k * 4 + 1, none⟩ = some (.int .i64 (u k).place) := hr.cells 1 _ rfl
      have z2 : wr.cell? ⟨G, k * 4 + 2, none⟩ = some (.bool (u k).rcv) := hr.cells 2 _ rfl
      have z3 : wr.cell? ⟨G, k * 4 + 3, none⟩ = some (.bool (u k).grd) := hr.cells 3 _ rfl
      have HS := Lib.hid (cntTo_succ u k q)
      clear hr h1
      generalize u k = x at *
      obtain ⟨sku, pl, rc, gr⟩ := x
      unfold Itm.arr at HB1 HA1
      dsimp only at HS HB1 HA1 z0 z1 z2 z3
      go_upto_region 7 with (fail)
      show Code.wp _ _ _ _ (wr.alloc (.cells #[.int .i64 sku, .int .i64 pl, .bool rc, .bool gr] 52))
      clear z0 z1 z2 z3 HB
      generalize wr.alloc (.cells #[.int .i64 sku, .int .i64 pl, .bool rc, .bool gr] 52) = w1 at *
      generalize wr.heap.size = g at *
      have y1 : w1.cell? ⟨g, 1, none⟩ = some (.int .i64 pl) := by
        have := HA1.out.cells 1 _ rfl
        simpa using this
      by_cases e : pl = q
      · subst e
        have HS1 : Hid (m + 1 = cntTo u (k + 1) pl) := by
          have e1 := HS.out
          have e2 := HM.out
          rw [beq_self_eq_true, if_pos rfl] at e1
          show _ = _
          omega
        clear HS HM
        go_wp2
        go_roundw
        case rel => exact ⟨k + 1, m + 1, by omega, by omega, by go_num, by go_num, HS1.out, HB1.out⟩
        case measure => simp [intOf]; omega
      · have hq : (pl == q) = false := by simpa using e
        have HS1 : Hid (m = cntTo u (k + 1) q) := by
          have e1 := HS.out
          have e2 := HM.out
          rw [hq, if_neg (by decide)] at e1
          show _ = _
          omega
        clear HS HM
        go_wp2
        go_roundw
        case rel => exact ⟨k + 1, m, by omega, by omega, by go_num, rfl, HS1.out, HB1.out⟩
        case measure => simp [intOf]; omega
    · obtain rfl : k = n := by omega
      go_wp2
      go_ret
      exact ⟨congrArg (fun z : Nat => Ending.returned (Value.int .i64 (z : Int))) HM.out, HB.out⟩
end Go.Proofs.Ytakdodcdgmbhaaa
