/-
  The Out of package codec: what its memory holds, and the contracts of its methods. Conditions: those of each theorem ('OutAt': the pointer leads to an Out that holds ys).
-/
import Derived.Test.YtmaoimjfkncnpaaLeX
namespace Go.Proofs.Ytmaoimjfkncnpaa
open Go.RowKit
set_option maxRecDepth 100000
set_option maxRecDepth 100000

/-- What memory holds of an Out at block p; S: the blocks that are its own. -/
structure OutAt (w : World) (p : Nat) (S : Nat → Prop) (ys : List UInt8) (bad : Bool) : Prop where
  ok : bad = true → ys = []
  own : S p
  lt : ∀ k, S k → k < w.heap.size
  blk : ∃ cur, w.heap[p]? = some (.cells cur 52 (0, 0)) ∧ cur.size = 2
  row : ∃ a c, w.cell? ⟨p, 0, none⟩ = some (.slice a ys.length c) ∧ w.ownsRow 0 5 1 (.slice a ys.length c) ys.length (ys.map bval) ∧ ∀ g, (Value.slice a ys.length c).ownBlock = some g → S g ∧ g ≠ p
  c1 : w.cell? ⟨p, 1, none⟩ = some (.bool bad)

theorem OutAt.frozen {w : World} {p : Nat} {S : Nat → Prop} {ys : List UInt8} {bad : Bool} (h : OutAt w p S ys bad) (o : Nat) : w.frozen? ⟨p, o, none⟩ = false := by
  obtain ⟨cur, h1, _⟩ := h.blk
  simp [World.frozen?, h1]

theorem OutAt.upd {w w' : World} {p : Nat} {S T : Nat → Prop} {ys : List UInt8} {bad : Bool} (h : OutAt w p S ys bad) (hu : Upd T w w') (hd : ∀ k, S k → ¬ T k) : OutAt w' p S ys bad := by
  have hp := h.lt p h.own
  have hn := hd p h.own
  have e := fun o => hu.cell (p := ⟨p, o, none⟩) hp hn
  obtain ⟨a, c, h1, h2, h3⟩ := h.row
  refine ⟨h.ok, h.own, fun k hk => Nat.lt_of_lt_of_le (h.lt k hk) hu.size, ?_, ⟨a, c, ?_, ?_, h3⟩, ?_⟩
  · rw [hu.block p hp hn]; exact h.blk
  · rw [e]; exact h1
  · exact ownsRow_upd h2 hu (fun g hg => hd g (h3 g hg).1)
  · rw [e]; exact h.c1

/-- What a call leaves of an Out: it holds ys; nothing has turned but its own blocks, and what is new. -/
def OutDone (w : World) (p : Nat) (S : Nat → Prop) (ys : List UInt8) (bad : Bool) (w' : World) : Prop :=
  ∃ S', OutAt w' p S' ys bad ∧ Upd S w w' ∧ ∀ k, S' k → S k ∨ w.heap.size ≤ k


theorem OutAt.set2 {w w1 : World} {p : Nat} {S : Nat → Prop} {ys zs : List UInt8} {bad b2 : Bool} (h : OutAt w p S ys bad) {a : Option Addr} {c : Nat} {v : Value} (hv : w.cell? ⟨p, 0, none⟩ = some v)
    (hu : Upd (fun k => k = p ∨ v.ownBlock = some k) w w1) (hb : ∃ cur, w1.heap[p]? = some (.cells cur 52 (0, 0)) ∧ cur.size = 2)
    (h0 : w1.cell? ⟨p, 0, none⟩ = some (.slice a zs.length c)) (h1 : w1.cell? ⟨p, 1, none⟩ = some (.bool b2))
    (hr : w1.ownsRow 0 5 1 (.slice a zs.length c) zs.length (zs.map bval)) (hn : ∀ g, (Value.slice a zs.length c).ownBlock = some g → v.ownBlock = some g ∨ w.heap.size ≤ g)
    (hok : b2 = true → zs = []) : OutDone w p S zs b2 w1 := by
  obtain ⟨a0, c0, e0, r0, m0⟩ := h.row
  rw [hv] at e0
  injection e0 with e0
  subst e0
  have hp := h.lt p h.own
  refine ⟨More S w w1, ⟨hok, .inl h.own, fun k hk => ?_, hb, ⟨a, c, h0, hr, fun g hg => ?_⟩, h1⟩, hu.mono fun k _ hk => ?_, fun k hk => hk.elim .inl (fun x => .inr x.1)⟩
  · rcases hk with hk | hk
    · exact Nat.lt_of_lt_of_le (h.lt k hk) hu.size
    · exact hk.2
  · rcases hn g hg with x | x
    · exact ⟨.inl (m0 g x).1, (m0 g x).2⟩
    · refine ⟨.inr ⟨x, ?_⟩, by omega⟩
      rcases hr.2 with ⟨hv, _⟩ | ⟨g', cap, cur, hv, _, hh, _⟩
      · rw [hv] at hg; cases hg
      · injection hv with e1 e2 e3
        subst e1
        obtain rfl : g' = g := by simpa [Value.ownBlock] using hg
        exact (Array.getElem?_eq_some_iff.1 hh).1
  · rcases hk with rfl | hk
    · exact h.own
    · exact (m0 k hk).1

theorem OutDone.same {w : World} {p : Nat} {S : Nat → Prop} {ys : List UInt8} {bad : Bool} (h : OutAt w p S ys bad) : OutDone w p S ys bad w := ⟨S, h, Upd.refl _ _, fun _ hk => .inl hk⟩

set_option maxHeartbeats 400000 in
theorem spoil_in {w : World} {p : Nat} {S : Nat → Prop} {ys : List UInt8} {bad : Bool} (h : OutAt w p S ys bad) :
    Calls Try.prog 50 #[.pointer (some ⟨p, 0, none⟩)] w fun e w' => e = .returned (.tuple #[]) ∧ OutDone w p S [] true w' := by
  have f0 := h.frozen 0
  have f1 := h.frozen 1
  have c1 := h.c1
  obtain ⟨cur, hc, hs⟩ := h.blk
  have hp := h.lt p h.own
  obtain ⟨a, c, c0, h2, h3⟩ := h.row
  have key : OutDone w p S [] true ((w.setCell { block := p, off := 0 } (Value.slice none 0 0)).setCell { block := p, off := 1 } (Value.bool true)) :=
    h.set2 (zs := []) (a := none) (c := 0) c0 (((Upd.refl _ _).setCell (p := ⟨p, 0, none⟩) (.inl (.inl rfl)) _).setCell (p := ⟨p, 1, none⟩) (.inl (.inl rfl)) _)
      ⟨_, setCell_heap_at (setCell_heap_at hc), by simpa using hs⟩ (by rw [cell_other (by omega)]; exact cell_same c0) (cell_same (by rw [cell_other (by omega)]; exact c1))
      (World.ownsRow_nil _ _ _ _) (fun g hg => by simp [Value.ownBlock] at hg) (fun _ => rfl)
  clear hc hs h2 h3
  go_enter Try.func50, Try.ntmps50
  go_wp2
  go_end0
  exact ⟨rfl, key⟩

set_option maxHeartbeats 400000 in
theorem plain_bad {w : World} {p : Nat} {S : Nat → Prop} {ys : List UInt8} (h : OutAt w p S ys true) (v : Value) :
    Calls Try.prog 51 #[.pointer (some ⟨p, 0, none⟩), v] w fun e w' => e = .returned (.tuple #[]) ∧ w = w' := by
  have c1 := h.c1
  go_enter Try.func51, Try.ntmps51
  go_wp2
  refine bodyPost_ret (results_none rfl _ _ _) rfl ?_
  exact ⟨rfl, rfl⟩

set_option maxHeartbeats 800000 in
theorem plain_good {w : World} {p : Nat} {S : Nat → Prop} {ys : List UInt8} (h : OutAt w p S ys false) (ad : Option Addr) (xs : List UInt8) (n c : Nat) (hn : xs.length = n) (hx : IsBytes w ad xs) (hnc : ad = none → c = 0)
    (hb : ys.length + n ≤ 140737488355328) :
    Calls Try.prog 51 #[.pointer (some ⟨p, 0, none⟩), .slice ad n c] w fun e w' => e = .returned (.tuple #[]) ∧ OutDone w p S (ys ++ xs) false w' := by
  have f0 := h.frozen 0
  have c1 := h.c1
  obtain ⟨cur, hc, hs⟩ := h.blk
  have hp := h.lt p h.own
  obtain ⟨a, c2, c0, h2, h3⟩ := h.row
  have HC := Lib.hid hc
  clear hc
  go_enter Try.func51, Try.ntmps51
  go_wp2_with (at_builtin; refine wpList_append_bytes rfl _ _ 26 rfl 0 5 Try.underlying26 u8_info (.slice a ys.length c2) ys.length ys rfl h2 ad xs n hn c rfl hx hnc hb (Nat.zero_le _) ?_; intro a' c' w1 hr hg hnew; obtain ⟨x0, fz, HB⟩ := grown_at hp hg (fun g hg => (h3 g hg).2) c0 f0)
  go_end0
  subst hn
  refine ⟨rfl, ?_⟩
  rw [← List.length_append] at *
  refine h.set2 (zs := ys ++ xs) (a := a') (c := c') c0 ((((Upd.refl _ _).grown hg (fun k hk => .inl (.inr hk)))).setCell (p := ⟨p, 0, none⟩) (.inl (.inl rfl)) _)
      ⟨_, setCell_heap_at (HB.out.trans HC.out), by simpa using hs⟩ (cell_same x0) ?_ ?_ (fun g hg => ?_) (fun x => by cases x)
  · rw [cell_other (by omega), World.cell?_of_block (a := ⟨p, 1, none⟩) HB.out]; exact c1
  · refine ownsRow_upd hr (upd_set _ _) ?_
    intro g hv hk
    rcases hnew g hv with hk' | hk'
    · exact (h3 g hk').2 hk
    · omega
  · rcases hnew g hg with x | x
    · exact .inl x
    · exact .inr (by omega)

/-- What an Out holds behind some bytes. -/
def addB (ys : List UInt8) (bad : Bool) (xs : List UInt8) : List UInt8 := if bad then [] else ys ++ xs

set_option maxHeartbeats 400000 in
theorem plain_in {w : World} {p : Nat} {S : Nat → Prop} {ys : List UInt8} {bad : Bool} (h : OutAt w p S ys bad) (ad : Option Addr) (xs : List UInt8) (n c : Nat) (hn : xs.length = n) (hx : IsBytes w ad xs) (hnc : ad = none → c = 0)
    (hb : ys.length + n ≤ 140737488355328) :
    Calls Try.prog 51 #[.pointer (some ⟨p, 0, none⟩), .slice ad n c] w fun e w' => e = .returned (.tuple #[]) ∧ OutDone w p S (addB ys bad xs) bad w' := by
  cases bad with
  | true =>
    obtain rfl := h.ok rfl
    refine (plain_bad h _).mono ?_
    rintro e w' ⟨rfl, rfl⟩
    exact ⟨rfl, OutDone.same h⟩
  | false => exact plain_good h ad xs n c hn hx hnc hb

theorem OutDone.after {w w1 w' : World} {p : Nat} {S : Nat → Prop} {ys : List UInt8} {bad : Bool} (hb : Below w.heap.size w w1) (d : OutDone w1 p S ys bad w') : OutDone w p S ys bad w' := by
  obtain ⟨S', h1, h2, h3⟩ := d
  exact ⟨S', h1, (below_upd S hb).trans h2 (fun _ _ x => x), fun k hk => (h3 k hk).elim .inl (fun x => .inr (Nat.le_trans hb.size x))⟩
theorem OutAt.below {w w' : World} {p : Nat} {S : Nat → Prop} {ys : List UInt8} {bad : Bool} (h : OutAt w p S ys bad) (hb : Below w.heap.size w w') : OutAt w' p S ys bad :=
  h.upd (T := fun _ => False) (Upd.below hb) (fun _ _ x => x)

set_option maxHeartbeats 800000 in
theorem number_in {w : World} {p : Nat} {S : Nat → Prop} {ys : List UInt8} {bad : Bool} (h : OutAt w p S ys bad) (v : Int) (size : Nat) (hs : size ≤ 8) (hb : ys.length ≤ 1000000) :
    Calls Try.prog 47 #[.pointer (some ⟨p, 0, none⟩), .int .u64 v, .int .i64 size] w fun e w' => e = .returned (.tuple #[]) ∧ OutDone w p S (addB ys bad (le v size)) bad w' := by
  have hs0 : (0 : Int) ≤ (size : Int) := by omega
  have hs8 : (size : Int) ≤ 8 := by omega
  go_enter Try.func47, Try.ntmps47
  go_wp2
  go_loopw [7, 8] (fun _ i wr => ∃ k : Nat, k ≤ 8 ∧ i = .int .i64 k ∧ Below w.heap.size w wr ∧ ∃ cur, wr.heap[w.heap.size]? = some (.cells cur 74 (0, 0)) ∧ cur.size = 8 ∧ (∀ j, j < k → cur[j]? = some (bval (byteAt v j))) ∧ (∀ j, k ≤ j → j < 8 → cur[j]? = some (.int .u8 0))) (fun _ i _ => 8 - (intOf i).toNat)
  case atStart =>
    refine ⟨0, by omega, rfl, (Below.refl _ _).alloc (Nat.le_refl _) _, _, heap_alloc_new w _, rfl, fun j hj => by omega, fun j _ hj => ?_⟩
    rcases j with _ | _ | _ | _ | _ | _ | _ | _ | j <;> first | rfl | omega
  case round =>
    obtain ⟨k, hk, rfl, hu, cur, hc, hz, hlo, hhi⟩ := hrel
    by_cases hlt : k < 8
    · have x0 : wr.cell? ⟨w.heap.size, k, none⟩ = some (.int .u8 0) := by rw [cell_of_row wr _ k cur _ _ hc]; exact hhi k (Nat.le_refl _) hlt
      have f0 : wr.frozen? ⟨w.heap.size, k, none⟩ = false := by simp [World.frozen?, hc]
      have hlt8 : (k : Int) < 8 := by omega
      have hk0 : (0 : Int) ≤ (k : Int) := by omega
      have HC := Lib.hid hc
      have HZ := Lib.hid hz
      have HL := Lib.hid hlo
      have HH := Lib.hid hhi
      clear hc hz hlo hhi
      go_wp2
      go_roundw
      case rel =>
        have hc := HC.out
        have hz := HZ.out
        refine ⟨k + 1, by omega, by go_num, hu.setCell (Nat.le_refl _) _, _, setCell_heap_at HC.out, by simpa using hz, fun j hj => ?_, fun j h1 h2 => ?_⟩
        · rw [Array.getElem?_setIfInBounds]
          by_cases e : k = j
          · subst e
            rw [if_pos rfl, if_pos (by omega), bval, byteAt_int]
          · rw [if_neg e]; exact HL.out j (by omega)
        · rw [Array.getElem?_setIfInBounds, if_neg (by omega)]
          exact HH.out j (by omega) h2
      case measure => simp [intOf]; omega
    · obtain rfl : k = 8 := by omega
      have hx : IsBytes wr (some ⟨w.heap.size, 0, none⟩) (le v size) := by
        refine .inr ⟨_, _, rfl, (Array.getElem?_eq_some_iff.1 hc).1, fun i hi => ?_⟩
        rw [Nat.zero_add, cell_of_row wr _ i cur _ _ hc, le_get]
        exact hlo i (by rw [le_length] at hi; omega)
      have h1 := h.below hu
      have hl := Lib.hid (le_length v size)
      have hb2 : ys.length + size ≤ 140737488355328 := by omega
      clear hc hz hlo hhi
      go_wp2_with fail
      refine (plain_in h1 (some ⟨w.heap.size, 0, none⟩) (le v size) size 8 hl.out hx (fun x => by cases x) hb2).mono ?_
      rintro e w2 ⟨rfl, d⟩
      go_wp2
      go_end0
      exact ⟨rfl, d.after hu⟩

def putN (ys : List UInt8) (bad : Bool) (v : Int) (n : Nat) : List UInt8 × Bool :=
  if fits v n then (addB ys bad (le v n), bad) else ([], true)

set_option maxHeartbeats 800000 in
theorem count1 {w : World} {p : Nat} {S : Nat → Prop} {ys : List UInt8} {bad : Bool} (h : OutAt w p S ys bad) (v : Int) (hv : I64 v) (hb : ys.length ≤ 1000000) :
    Calls Try.prog 46 #[.pointer (some ⟨p, 0, none⟩), .int .i64 v, .int .i64 1] w fun e w' => e = .returned (.tuple #[]) ∧ OutDone w p S (putN ys bad v 1).1 (putN ys bad v 1).2 w' := by
  have hq := fits_shr hv (n := 1) (m := 256) (by decide) (by decide) (by decide)
  have HV := Lib.hid hv
  clear hv
  by_cases hf : fits v 1 = true
  · have e : putN ys bad v 1 = (addB ys bad (le v 1), bad) := by simp only [putN, hf, if_true]
    rw [e]
    rw [hf] at hq
    simp only [Bool.not_true] at hq
    have hw := Lib.hid (u64_pos HV.out (fits_pos hf))
    clear hf e
    go_enter Try.func46, Try.ntmps46
    go_wp2_with fail
    rw [hw.out]
    refine (number_in h v 1 (by decide) hb).mono ?_
    rintro e w1 ⟨rfl, d⟩
    go_wp2
    go_end0
    exact ⟨rfl, d⟩
  · have e : putN ys bad v 1 = ([], true) := by simp only [putN, hf]; rfl
    rw [e]
    have hf2 : fits v 1 = false := by simpa using hf
    rw [hf2] at hq
    simp only [Bool.not_false] at hq
    clear hf hf2 e
    go_enter Try.func46, Try.ntmps46
    go_wp2_with fail
    refine (spoil_in h).mono ?_
    rintro e w1 ⟨rfl, d⟩
    go_wp2
    refine bodyPost_ret (results_none rfl _ _ _) rfl ?_
    exact ⟨rfl, d⟩

set_option maxHeartbeats 800000 in
theorem count2 {w : World} {p : Nat} {S : Nat → Prop} {ys : List UInt8} {bad : Bool} (h : OutAt w p S ys bad) (v : Int) (hv : I64 v) (hb : ys.length ≤ 1000000) :
    Calls Try.prog 46 #[.pointer (some ⟨p, 0, none⟩), .int .i64 v, .int .i64 2] w fun e w' => e = .returned (.tuple #[]) ∧ OutDone w p S (putN ys bad v 2).1 (putN ys bad v 2).2 w' := by
  have hq := fits_shr hv (n := 2) (m := 65536) (by decide) (by decide) (by decide)
  have HV := Lib.hid hv
  clear hv
  by_cases hf : fits v 2 = true
  · have e : putN ys bad v 2 = (addB ys bad (le v 2), bad) := by simp only [putN, hf, if_true]
    rw [e]
    rw [hf] at hq
    simp only [Bool.not_true] at hq
    have hw := Lib.hid (u64_pos HV.out (fits_pos hf))
    clear hf e
    go_enter Try.func46, Try.ntmps46
    go_wp2_with fail
    rw [hw.out]
    refine (number_in h v 2 (by decide) hb).mono ?_
    rintro e w1 ⟨rfl, d⟩
    go_wp2
    go_end0
    exact ⟨rfl, d⟩
  · have e : putN ys bad v 2 = ([], true) := by simp only [putN, hf]; rfl
    rw [e]
    have hf2 : fits v 2 = false := by simpa using hf
    rw [hf2] at hq
    simp only [Bool.not_false] at hq
    clear hf hf2 e
    go_enter Try.func46, Try.ntmps46
    go_wp2_with fail
    refine (spoil_in h).mono ?_
    rintro e w1 ⟨rfl, d⟩
    go_wp2
    refine bodyPost_ret (results_none rfl _ _ _) rfl ?_
    exact ⟨rfl, d⟩

set_option maxHeartbeats 800000 in
theorem count4 {w : World} {p : Nat} {S : Nat → Prop} {ys : List UInt8} {bad : Bool} (h : OutAt w p S ys bad) (v : Int) (hv : I64 v) (hb : ys.length ≤ 1000000) :
    Calls Try.prog 46 #[.pointer (some ⟨p, 0, none⟩), .int .i64 v, .int .i64 4] w fun e w' => e = .returned (.tuple #[]) ∧ OutDone w p S (putN ys bad v 4).1 (putN ys bad v 4).2 w' := by
  have hq := fits_shr hv (n := 4) (m := 4294967296) (by decide) (by decide) (by decide)
  have HV := Lib.hid hv
  clear hv
  by_cases hf : fits v 4 = true
  · have e : putN ys bad v 4 = (addB ys bad (le v 4), bad) := by simp only [putN, hf, if_true]
    rw [e]
    rw [hf] at hq
    simp only [Bool.not_true] at hq
    have hw := Lib.hid (u64_pos HV.out (fits_pos hf))
    clear hf e
    go_enter Try.func46, Try.ntmps46
    go_wp2_with fail
    rw [hw.out]
    refine (number_in h v 4 (by decide) hb).mono ?_
    rintro e w1 ⟨rfl, d⟩
    go_wp2
    go_end0
    exact ⟨rfl, d⟩
  · have e : putN ys bad v 4 = ([], true) := by simp only [putN, hf]; rfl
    rw [e]
    have hf2 : fits v 4 = false := by simpa using hf
    rw [hf2] at hq
    simp only [Bool.not_false] at hq
    clear hf hf2 e
    go_enter Try.func46, Try.ntmps46
    go_wp2_with fail
    refine (spoil_in h).mono ?_
    rintro e w1 ⟨rfl, d⟩
    go_wp2
    refine bodyPost_ret (results_none rfl _ _ _) rfl ?_
    exact ⟨rfl, d⟩

set_option maxHeartbeats 400000 in
theorem out_u8 {w : World} {p : Nat} {S : Nat → Prop} {ys : List UInt8} {bad : Bool} (h : OutAt w p S ys bad) (v : Int) (hv : I64 v) (hb : ys.length ≤ 1000000) :
    Calls Try.prog 33 #[.pointer (some ⟨p, 0, none⟩), .int .i64 v] w fun e w' => e = .returned (.tuple #[]) ∧ OutDone w p S (putN ys bad v 1).1 (putN ys bad v 1).2 w' := by
  go_enter Try.func33, Try.ntmps33
  go_wp2_with fail
  refine (count1 h v hv hb).mono ?_
  rintro e w1 ⟨rfl, d⟩
  go_wp2
  go_end0
  exact ⟨rfl, d⟩

set_option maxHeartbeats 400000 in
theorem out_u16 {w : World} {p : Nat} {S : Nat → Prop} {ys : List UInt8} {bad : Bool} (h : OutAt w p S ys bad) (v : Int) (hv : I64 v) (hb : ys.length ≤ 1000000) :
    Calls Try.prog 38 #[.pointer (some ⟨p, 0, none⟩), .int .i64 v] w fun e w' => e = .returned (.tuple #[]) ∧ OutDone w p S (putN ys bad v 2).1 (putN ys bad v 2).2 w' := by
  go_enter Try.func38, Try.ntmps38
  go_wp2_with fail
  refine (count2 h v hv hb).mono ?_
  rintro e w1 ⟨rfl, d⟩
  go_wp2
  go_end0
  exact ⟨rfl, d⟩

set_option maxHeartbeats 400000 in
theorem out_u32 {w : World} {p : Nat} {S : Nat → Prop} {ys : List UInt8} {bad : Bool} (h : OutAt w p S ys bad) (v : Int) (hv : I64 v) (hb : ys.length ≤ 1000000) :
    Calls Try.prog 39 #[.pointer (some ⟨p, 0, none⟩), .int .i64 v] w fun e w' => e = .returned (.tuple #[]) ∧ OutDone w p S (putN ys bad v 4).1 (putN ys bad v 4).2 w' := by
  go_enter Try.func39, Try.ntmps39
  go_wp2_with fail
  refine (count4 h v hv hb).mono ?_
  rintro e w1 ⟨rfl, d⟩
  go_wp2
  go_end0
  exact ⟨rfl, d⟩

set_option maxHeartbeats 400000 in
theorem out_i64 {w : World} {p : Nat} {S : Nat → Prop} {ys : List UInt8} {bad : Bool} (h : OutAt w p S ys bad) (v : Int) (hb : ys.length ≤ 1000000) :
    Calls Try.prog 34 #[.pointer (some ⟨p, 0, none⟩), .int .i64 v] w fun e w' => e = .returned (.tuple #[]) ∧ OutDone w p S (addB ys bad (le (IntKind.u64.wrap v) 8)) bad w' := by
  go_enter Try.func34, Try.ntmps34
  go_wp2_with fail
  refine (number_in h _ 8 (by decide) hb).mono ?_
  rintro e w1 ⟨rfl, d⟩
  go_wp2
  go_end0
  exact ⟨rfl, d⟩

def flagI (b : Bool) : Int := if b then 1 else 0
set_option maxHeartbeats 400000 in
theorem out_flag {w : World} {p : Nat} {S : Nat → Prop} {ys : List UInt8} {bad : Bool} (h : OutAt w p S ys bad) (b : Bool) (hb : ys.length ≤ 1000000) :
    Calls Try.prog 40 #[.pointer (some ⟨p, 0, none⟩), .bool b] w fun e w' => e = .returned (.tuple #[]) ∧ OutDone w p S (putN ys bad (flagI b) 1).1 (putN ys bad (flagI b) 1).2 w' := by
  cases b
  · go_enter Try.func40, Try.ntmps40
    go_wp2_with fail
    refine (out_u8 h 0 ⟨by decide, by decide⟩ hb).mono ?_
    rintro e w1 ⟨rfl, d⟩
    go_wp2
    go_end0
    exact ⟨rfl, d⟩
  · go_enter Try.func40, Try.ntmps40
    go_wp2_with fail
    refine (out_u8 h 1 ⟨by decide, by decide⟩ hb).mono ?_
    rintro e w1 ⟨rfl, d⟩
    go_wp2
    go_end0
    exact ⟨rfl, d⟩

/-- What an Out holds behind bytes and their number. -/
def putB (ys : List UInt8) (bad : Bool) (xs : List UInt8) : List UInt8 × Bool :=
  (addB (putN ys bad xs.length 2).1 (putN ys bad xs.length 2).2 xs, (putN ys bad xs.length 2).2)
theorem addB_len (ys : List UInt8) (bad : Bool) (xs : List UInt8) : (addB ys bad xs).length ≤ ys.length + xs.length := by
  unfold addB; split <;> simp
theorem putN_len (ys : List UInt8) (bad : Bool) (v : Int) (n : Nat) : (putN ys bad v n).1.length ≤ ys.length + n := by
  unfold putN
  split
  · have := addB_len ys bad (le v n); rwa [le_length] at this
  · simp
theorem OutDone.trans {w w1 w2 : World} {p : Nat} {S S1 : Nat → Prop} {zs : List UInt8} {b2 : Bool} (hu : Upd S w w1) (hm : ∀ k, S1 k → S k ∨ w.heap.size ≤ k) (d : OutDone w1 p S1 zs b2 w2) : OutDone w p S zs b2 w2 := by
  obtain ⟨S2, h2, u2, m2⟩ := d
  refine ⟨S2, h2, hu.trans u2 (fun k hk hs => ?_), fun k hk => ?_⟩
  · rcases hm k hs with x | x
    · exact x
    · omega
  · rcases m2 k hk with x | x
    · exact hm k x
    · exact .inr (Nat.le_trans hu.size x)

def endE (bad : Bool) : Int := if bad then 2 else 0
set_option maxHeartbeats 400000 in
theorem end_in {w : World} {p : Nat} {S : Nat → Prop} {ys : List UInt8} {bad : Bool} (h : OutAt w p S ys bad) (hb : ys.length ≤ 140737488355328) :
    Calls Try.prog 25 #[.pointer (some ⟨p, 0, none⟩)] w fun e w' => (∃ a c, e = .returned (.tuple #[.slice a ys.length c, .int .i64 (endE bad)]) ∧ w'.ownsRow w.heap.size 5 1 (.slice a ys.length c) ys.length (ys.map bval)) ∧ Below w.heap.size w w' := by
  have c1 := h.c1
  obtain ⟨a, c2, c0, h2, h3⟩ := h.row
  obtain ⟨g1, _, g3, g4, g5⟩ := bytes_of_row h2
  cases bad with
  | true =>
    obtain rfl := h.ok rfl
    clear c0
    go_enter Try.func25, Try.ntmps25
    go_wp2
    go_ret2
    exact ⟨⟨none, 0, rfl, World.ownsRow_nil _ _ _ _⟩, Below.refl _ _⟩
  | false =>
    go_enter Try.func25, Try.ntmps25
    go_wp2_with fail
    refine (clone_bytes a ys ys.length c2 w rfl g1 g5 hb).mono ?_
    rintro e w1 ⟨⟨a', c', rfl, hr⟩, b1⟩
    go_wp2
    go_ret2
    exact ⟨⟨a', c', rfl, hr⟩, b1⟩
end Go.Proofs.Ytmaoimjfkncnpaa
