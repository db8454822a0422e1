/-
  Package order: an order out of bytes. Conditions: those of each theorem.
-/
import Derived.Test.YtbiompjhenkieaaGreatOrdLists
namespace Go.Proofs.YtbiompjhenkieaaGreat
open Go.RowKit
set_option maxRecDepth 100000

theorem info_ordr : (Tryz.prog.info? 45).map (·.size) = some 5 := by kernel_rfl
/-- Lines in a block of their own. -/
def NewLines (lo : Nat) (w : World) (a : Option Addr) (n : Nat) (ls : List Ln) : Prop := ls.length = n ∧ n ≤ 255 ∧ ∃ g, a = some ⟨g, 0, none⟩ ∧ lo ≤ g ∧ g < w.heap.size ∧ ∀ i (h : i < ls.length), ArrAt w g (i * 4) (Ln.arr ls[i])
theorem NewLines.upd {lo : Nat} {w w' : World} {a : Option Addr} {n : Nat} {T : Nat → Prop} {ls : List Ln} (h : NewLines lo w a n ls) (hu : Upd T w w') (hq : ∀ g, a = some ⟨g, 0, none⟩ → ¬ T g) : NewLines lo w' a n ls := by
  obtain ⟨h1, h2, g, rfl, h3, h4, h5⟩ := h
  exact ⟨h1, h2, g, rfl, h3, Nat.lt_of_lt_of_le h4 hu.size, fun i hi => (h5 i hi).upd hu (hq g rfl)⟩
def OrderR (w : World) (p : Nat) (S : Nat → Prop) (rest : List UInt8) (e : Ending) (w' : World) : Prop :=
  ∃ (x : Ord) (a : Option Addr) (n : Nat) (rest' : List UInt8) (bad' : Bool), e = .returned (.agg (ordCells x.day a n n x.disc x.tax x.ship)) ∧ NewLines w.heap.size w' a n x.lines ∧ OrdFit x ∧ InAt w' p S rest' bad' ∧ Upd (fun k => k = p) w w' ∧ ∀ (x0 : Ord) r, OrdSmall x0 → rest = ordBytes x0 ++ r → x = x0 ∧ rest' = r

set_option maxHeartbeats 4000000 in
theorem ord_readOrder {w : World} {p : Nat} {S : Nat → Prop} {rest : List UInt8} {bad : Bool} (h : InAt w p S rest bad) :
    Calls Tryz.prog 47 #[.pointer (some ⟨p, 0, none⟩)] w (OrderR w p S rest) := by
  have hown := h.lt p h.own
  have hsep := Lib.hid h.lt
  have Z0 : Aside ((w.alloc (.cells #[.int .i64 0, .slice none 0 0, .int .i64 0, .int .i64 0, .int .i64 0] 45)).heap[w.heap.size]? = some (.cells #[.int .i64 0, .slice none 0 0, .int .i64 0, .int .i64 0, .int .i64 0] 45 (0, 0))) := heap_alloc_new _ _
  have I0 : Aside (InAt (w.alloc (.cells #[.int .i64 0, .slice none 0 0, .int .i64 0, .int .i64 0, .int .i64 0] 45)) p S rest bad) := h.below (upd_box _)
  have U0 : Aside (Upd (fun k => k = p) w (w.alloc (.cells #[.int .i64 0, .slice none 0 0, .int .i64 0, .int .i64 0, .int .i64 0] 45))) := (Upd.refl _ _).alloc _
  have L0 : Hid (w.heap.size + 1 ≤ (w.alloc (.cells #[.int .i64 0, .slice none 0 0, .int .i64 0, .int .i64 0, .int .i64 0] 45)).heap.size) := by show _ ≤ _; simp
  have hgp : Hid (w.heap.size ≠ p) := by show _ ≠ _; omega
  clear h
  go_enter Tryz.func47, Tryz.ntmps47
  go_upto_region 1 with (fail)
  show Code.wp _ _ _ _ (w.alloc (.cells #[.int .i64 0, .slice none 0 0, .int .i64 0, .int .i64 0, .int .i64 0] 45))
  generalize w.alloc (.cells #[.int .i64 0, .slice none 0 0, .int .i64 0, .int .i64 0, .int .i64 0] 45) = v0 at *
  have HC : Aside _ := in_u32t I0.out
  go_wp2_with fail
  refine Calls.mono HC.out ?_
  rintro e v1 ⟨a, r1, bd1, rfl, i2, u2, t2⟩
  have I1 : Aside _ := i2
  have U1 : Aside _ := U0.out.trans u2 (fun _ _ x => x)
  have Z1 : Aside _ := row_upd Z0.out u2 hgp.out
  have L1 : Hid (w.heap.size + 1 ≤ v1.heap.size) := Nat.le_trans L0.out u2.size
  have T1 := Lib.hid t2
  clear HC i2 u2 t2 I0 U0 Z0 L0
  have HC : Aside _ := in_i64t I1.out
  go_wp2_with fail
  refine Calls.mono HC.out ?_
  rintro e v2 ⟨b, r2, bd2, rfl, i2, u2, t2⟩
  have I2 : Aside _ := i2
  have U2 : Aside _ := U1.out.trans u2 (fun _ _ x => x)
  have Z2 : Aside _ := row_upd Z1.out u2 hgp.out
  have L2 : Hid (w.heap.size + 1 ≤ v2.heap.size) := Nat.le_trans L1.out u2.size
  have T2 := Lib.hid t2
  clear HC i2 u2 t2 I1 U1 Z1 L1
  have HC : Aside _ := in_i64t I2.out
  go_wp2_with fail
  refine Calls.mono HC.out ?_
  rintro e v3 ⟨c, r3, bd3, rfl, i2, u2, t2⟩
  have I3 : Aside _ := i2
  have U3 : Aside _ := U2.out.trans u2 (fun _ _ x => x)
  have Z3 : Aside _ := row_upd Z2.out u2 hgp.out
  have L3 : Hid (w.heap.size + 1 ≤ v3.heap.size) := Nat.le_trans L2.out u2.size
  have T3 := Lib.hid t2
  clear HC i2 u2 t2 I2 U2 Z2 L2
  have HC : Aside _ := in_i64t I3.out
  go_wp2_with fail
  refine Calls.mono HC.out ?_
  rintro e v4 ⟨d, r4, bd4, rfl, i2, u2, t2⟩
  have I4 : Aside _ := i2
  have U4 : Aside _ := U3.out.trans u2 (fun _ _ x => x)
  have Z4 : Aside _ := row_upd Z3.out u2 hgp.out
  have L4 : Hid (w.heap.size + 1 ≤ v4.heap.size) := Nat.le_trans L3.out u2.size
  have T4 := Lib.hid t2
  clear HC i2 u2 t2 I3 U3 Z3 L3
  have HC : Aside _ := ord_listLine I4.out
  go_wp2_with fail
  refine Calls.mono HC.out ?_
  rintro e v5 ⟨gl, n, ls, r5, bd5, rfl, hn, hl, hg1, hg2, hrow, hfit, i2, u2, t2⟩
  have I5 : Aside _ := i2
  have U5 : Aside _ := U4.out.trans u2 (fun _ _ x => x)
  have Z5 : Aside _ := row_upd Z4.out u2 hgp.out
  have T5 : Hid (∀ (ls0 : List Ln) r, (∀ l ∈ ls0, LnSmall l) → ls0.length < 256 → r4 = [u8of ls0.length] ++ (lnsBytes ls0 ++ r) → ls = ls0 ∧ r5 = r) := t2
  have NL : Aside (NewLines w.heap.size v5 (some ⟨gl, 0, none⟩) n ls) := ⟨hl, hn, gl, rfl, by have := L4.out; omega, hg2, hrow⟩
  have HGL : Hid (w.heap.size < gl) := by have := L4.out; show _ < _; omega
  have HFT : Hid (∀ l ∈ ls, LnFit l) := hfit
  clear HC i2 u2 t2 I4 U4 Z4 L4 hl hg1 hg2 hrow hfit
  obtain ⟨g2, hg2⟩ : ∃ g2, g2 = w.heap.size := ⟨_, rfl⟩
  have Z9 := Z5.out
  rw [← hg2] at Z9 hgp ⊢
  have HG2 := Lib.hid hg2
  clear hg2 Z5
  have z0 : v5.cell? ⟨g2, 0, none⟩ = some (.int .i64 0) := by rw [cell_of_row v5 g2 0 _ _ _ Z9]; rfl
  have z1 : v5.cell? ⟨g2, 1, none⟩ = some (.slice none 0 0) := by rw [cell_of_row v5 g2 1 _ _ _ Z9]; rfl
  have z2 : v5.cell? ⟨g2, 2, none⟩ = some (.int .i64 0) := by rw [cell_of_row v5 g2 2 _ _ _ Z9]; rfl
  have z3 : v5.cell? ⟨g2, 3, none⟩ = some (.int .i64 0) := by rw [cell_of_row v5 g2 3 _ _ _ Z9]; rfl
  have z4 : v5.cell? ⟨g2, 4, none⟩ = some (.int .i64 0) := by rw [cell_of_row v5 g2 4 _ _ _ Z9]; rfl
  have zf : ∀ j, v5.frozen? ⟨g2, j, none⟩ = false := fun j => by simp [World.frozen?, Z9]
  have hat : (((((v5.setCell ⟨g2, 0, none⟩ (.int .i64 (a : Int))).setCell ⟨g2, 1, none⟩ (.slice (some ⟨gl, 0, none⟩) n n)).setCell ⟨g2, 2, none⟩ (.int .i64 b)).setCell ⟨g2, 3, none⟩ (.int .i64 c)).setCell ⟨g2, 4, none⟩ (.int .i64 d)).heap[g2]? = some (.cells (ordCells a (some ⟨gl, 0, none⟩) n n b c d) 45 (0, 0)) := by
    have g0 := setCell_heap_at (o := 0) (u := .int .i64 (a : Int)) Z9
    have g1 := setCell_heap_at (o := 1) (u := .slice (some ⟨gl, 0, none⟩) n n) g0
    have g2 := setCell_heap_at (o := 2) (u := .int .i64 b) g1
    have g3 := setCell_heap_at (o := 3) (u := .int .i64 c) g2
    have g4 := setCell_heap_at (o := 4) (u := .int .i64 d) g3
    unfold ordCells
    simpa using g4
  have HAT := Lib.hid hat
  have hsu : Upd (fun k => k = g2) v5 (((((v5.setCell ⟨g2, 0, none⟩ (.int .i64 (a : Int))).setCell ⟨g2, 1, none⟩ (.slice (some ⟨gl, 0, none⟩) n n)).setCell ⟨g2, 2, none⟩ (.int .i64 b)).setCell ⟨g2, 3, none⟩ (.int .i64 c)).setCell ⟨g2, 4, none⟩ (.int .i64 d)) := upd_gset (upd_gset (upd_gset (upd_gset (upd_gset (Upd.refl _ _)))))
  have HSU : Aside _ := hsu
  clear hat hsu Z9
  go_wp2
  refine bodyPost_ret (results_cell_row rfl _ _ g2 45 (ordCells a (some ⟨gl, 0, none⟩) n n b c d) (0, 0) _ rfl HAT.out Tryz.underlying45 rfl info_ordr) rfl ?_
  refine ⟨⟨a, ls, b, c, d⟩, some ⟨gl, 0, none⟩, n, r5, bd5, rfl, NL.out.upd HSU.out (fun g e => by injection e with e; injection e with e; have := HGL.out; have := HG2.out; omega), ⟨told_i64 T1.out (by decide), T2.out.1, T3.out.1, T4.out.1, HFT.out⟩, I5.out.upd HSU.out (fun k hk e => by have := hsep.out k hk; have := HG2.out; omega), U5.out.trans (HSU.out.mono (S' := fun k => w.heap.size ≤ k) (fun k _ e => by have := HG2.out; omega)) (fun k hk e => by omega), fun x0 r hs hr => ?_⟩
  obtain ⟨s1, s2, s3, s4, s5, s6⟩ := hs
  unfold ordBytes at hr
  simp only [List.append_assoc] at hr
  obtain ⟨e1, hr1⟩ := T1.out.told x0.day _ (fits4 s1) hr
  obtain ⟨e2, hr2⟩ := T2.out.2 x0.disc _ s2 hr1
  obtain ⟨e3, hr3⟩ := T3.out.2 x0.tax _ s3 hr2
  obtain ⟨e4, hr4⟩ := T4.out.2 x0.ship _ s4 hr3
  obtain ⟨e5, hr5⟩ := T5.out x0.lines r s6 (by omega) hr4
  obtain ⟨q1, q2, q3, q4, q5⟩ := x0
  simp only at e1 e2 e3 e4 e5
  subst e1 e2 e3 e4 e5
  exact ⟨rfl, hr5⟩

/-- What is known of an order's cells that were read into a row at g. -/
def OrdPart (lo : Nat) (g : Nat) (W : World) (x : Ord) (c : Array Value) : Prop := ∃ a n, c = ordCells x.day a n n x.disc x.tax x.ship ∧ NewLines lo W a n x.lines ∧ ∀ gl, a = some ⟨gl, 0, none⟩ → gl ≠ g
theorem OrdPart.upd {lo g : Nat} {T : Nat → Prop} {W W' : World} {x : Ord} {c : Array Value} (h : OrdPart lo g W x c) (hu : Upd T W W') (hq : ∀ k, T k → k < lo ∨ k = g) : OrdPart lo g W' x c := by
  obtain ⟨a, n, h1, h2, h3⟩ := h
  refine ⟨a, n, h1, h2.upd hu (fun gl e ht => ?_), h3⟩
  obtain ⟨-, -, g', e', h4, -⟩ := h2
  rcases hq gl ht with hq | hq
  · rw [e] at e'
    injection e' with e'
    injection e' with e'
    omega
  · exact h3 gl e hq
theorem ordsBytes_drop (qs : List Ord) (k : Nat) (h : k < qs.length) : ordsBytes (qs.drop k) = ordBytes qs[k] ++ ordsBytes (qs.drop (k + 1)) := by
  rw [List.drop_eq_getElem_cons h]
  rfl
theorem info_ordz : (Tryz.prog.info? 45).map (fun i => (i.zero, i.size, i.bytes)) = some (some (.agg #[.int .i64 0, .slice none 0 0, .int .i64 0, .int .i64 0, .int .i64 0]), 5, 56) := by kernel_rfl
theorem ordCells_one (day : Int) (a : Option Addr) (n c : Nat) (x y z : Int) : ∀ v ∈ (ordCells day a n c x y z).toList, v.oneCell' = true := by
  intro v hv
  simp only [ordCells, List.mem_cons, List.not_mem_nil, or_false] at hv
  rcases hv with rfl | rfl | rfl | rfl | rfl <;> rfl
def OrdersR (w : World) (p : Nat) (S : Nat → Prop) (rest : List UInt8) (e : Ending) (w' : World) : Prop :=
  ∃ (g n : Nat) (xs : List Ord) (rest' : List UInt8) (bad' : Bool), e = .returned (.slice (some ⟨g, 0, none⟩) n n) ∧ n ≤ 255 ∧ xs.length = n ∧ (∀ W, Upd (fun k => k < w.heap.size) w' W → OrdsAt W (some ⟨g, 0, none⟩) xs) ∧ (∀ x ∈ xs, OrdFit x) ∧ InAt w' p S rest' bad' ∧ Upd (fun k => k = p) w w' ∧
    ∀ (xs0 : List Ord) r, (∀ x ∈ xs0, OrdSmall x) → xs0.length < 256 → rest = [u8of xs0.length] ++ (ordsBytes xs0 ++ r) → xs = xs0 ∧ rest' = r

set_option maxHeartbeats 4000000 in
theorem ord_listOrder {w : World} {p : Nat} {S : Nat → Prop} {rest : List UInt8} {bad : Bool} (h : InAt w p S rest bad) :
    Calls Tryz.prog 46 #[.pointer (some ⟨p, 0, none⟩), .func (.func 47) #[] #[]] w (OrdersR w p S rest) := by
  have HC : Aside _ := in_u8t h
  have hown := Lib.hid (h.lt p h.own)
  have hsep := Lib.hid h.lt
  clear h
  go_enter Tryz.func46, Tryz.ntmps46
  go_wp2_with fail
  refine Calls.mono HC.out ?_
  rintro e w1 ⟨n, rest1, bad1, rfl, i1, u1, t1⟩
  have hn : n ≤ 255 := by have := t1.small; simp at this; omega
  have hmk := make_rows (P := Tryz.prog) w1 22 45 #[.int .i64 0, .slice none 0 0, .int .i64 0, .int .i64 0, .int .i64 0] (.agg #[.int .i64 0, .slice none 0 0, .int .i64 0, .int .i64 0, .int .i64 0]) 5 56 n Tryz.underlying22 info_ordz rfl (by decide) (by omega) (by omega)
  obtain ⟨Z, hZ⟩ : ∃ Z : Array Value, Z = #[.int .i64 0, .slice none 0 0, .int .i64 0, .int .i64 0, .int .i64 0] := ⟨_, rfl⟩
  have hZs : Z.size = 5 := by rw [hZ]; rfl
  rw [← hZ] at hmk
  have HR : Aside (RowsIn 45 5 w p S w1.heap.size n [] rest1 bad1 (w1.alloc (.cells (reps Z.toList (Value.agg Z).cells.toList 0 n).toArray 45))) :=
    ⟨i1.below (upd_box _), u1.alloc _, blk_made w1 Z 5 n hZs _, fun i hi => by simp at hi, u1.size, hown.out, hsep.out⟩
  have HLT : Hid (w1.heap.size < (w1.alloc (.cells (reps Z.toList (Value.agg Z).cells.toList 0 n).toArray 45)).heap.size) := by show _ < _; simp
  have HQ : Hid (∀ (xs0 : List Ord) r, (∀ x ∈ xs0, OrdSmall x) → xs0.length < 256 → rest = [u8of xs0.length] ++ (ordsBytes xs0 ++ r) → n = xs0.length ∧ rest1 = ordsBytes xs0 ++ r) := fun xs0 r _ h2 h3 => by
    obtain ⟨e1, e2⟩ := t1.told (xs0.length : Int) (ordsBytes xs0 ++ r) (fits_one (by omega) (by omega)) (by rw [le_one (by omega) (by omega)]; exact h3)
    exact ⟨by omega, e2⟩
  clear i1 u1 t1 HC hZ hZs
  go_upto_region 2 with (fail)
  clear hmk
  show Code.wp _ _ _ _ (w1.alloc (.cells (reps Z.toList (Value.agg Z).cells.toList 0 n).toArray 45))
  generalize w1.alloc (.cells (reps Z.toList (Value.agg Z).cells.toList 0 n).toArray 45) = w3 at *
  generalize w1.heap.size = g at *
  go_wp2
  go_loopw [12] (fun i wr => ∃ (k : Nat) (xs : List Ord) (cs : List (Array Value)) (rest4 : List UInt8) (bad4 : Bool), k ≤ n ∧ i = .int .i64 k ∧ Aside (RowsIn 45 5 w p S g n cs rest4 bad4 wr) ∧ Hid (g < wr.heap.size ∧ xs.length = k ∧ cs.length = k ∧ (∀ i (h1 : i < xs.length) (h2 : i < cs.length), OrdPart w.heap.size g wr xs[i] cs[i]) ∧ (∀ x ∈ xs, OrdFit x) ∧ ∀ (xs0 : List Ord) r, (∀ x ∈ xs0, OrdSmall x) → xs0.length < 256 → rest = [u8of xs0.length] ++ (ordsBytes xs0 ++ r) → n = xs0.length ∧ xs = xs0.take k ∧ rest4 = ordsBytes (xs0.drop k) ++ r)) (fun i _ => n - (intOf i).toNat)
  case atStart => exact ⟨0, [], [], _, _, Nat.zero_le _, rfl, HR.out, HLT.out, rfl, rfl, fun i h => absurd h (Nat.not_lt_zero _), fun l hl => by simp at hl, fun xs0 r h1 h2 h3 => ⟨(HQ.out xs0 r h1 h2 h3).1, rfl, (HQ.out xs0 r h1 h2 h3).2⟩⟩
  case round =>
    clear HR HQ HLT
    obtain ⟨k, xs, cs, rest4, bad4, hk, rfl, HR, HK⟩ := hrel
    by_cases hlt : k < n
    · have hkn : (k : Int) < (n : Int) := by omega
      have HC : Aside _ := ord_readOrder HR.out.inp
      go_wp2_with fail
      refine Calls.mono HC.out ?_
      rintro e w6 ⟨q, a, m, rest5, bad5, rfl, nl, f2, i2, u2, t2⟩
      have R6 : Aside _ := HR.out.next i2 u2
      have T2 : Hid (∀ (x0 : Ord) r, OrdSmall x0 → rest4 = ordBytes x0 ++ r → q = x0 ∧ rest5 = r) := t2
      have hpl := HK.out.2.1
      have hpc := HK.out.2.2.1
      have hgw := HK.out.1
      have hst := store_row (P := Tryz.prog) (R6.out.there k hlt) (ordCells q.day a m m q.disc q.tax q.ship).toList rfl (ordCells_one _ _ _ _ _ _ _)
      have hsz : ∀ c ∈ cs, c.size = 5 := fun c hc => by
        obtain ⟨i, hi, rfl⟩ := List.mem_iff_getElem.1 hc
        obtain ⟨a, n, e, -⟩ := HK.out.2.2.2.1 i (by omega) hi
        rw [e]; rfl
      have R7 : Aside (RowsIn 45 5 w p S g n (cs ++ [ordCells q.day a m m q.disc q.tax q.ship]) rest5 bad5 (w6.setCells g (k * 5) (ordCells q.day a m m q.disc q.tax q.ship).toList)) := by
        have := R6.out.put hsz (ordCells q.day a m m q.disc q.tax q.ship) rfl (by omega)
        rwa [hpc] at this
      have hus := upd_setCells g (ordCells q.day a m m q.disc q.tax q.ship).toList (k * 5) w6
      have hnl : OrdPart w.heap.size g w6 q (ordCells q.day a m m q.disc q.tax q.ship) := by
        obtain ⟨n1, n2, gl, rfl, n3, n4, n5⟩ := nl
        exact ⟨_, m, rfl, ⟨n1, n2, gl, rfl, Nat.le_trans HR.out.upd.size n3, n4, n5⟩, fun gl' e => by injection e with e; injection e with e; omega⟩
      have HK7 : Hid (g < (w6.setCells g (k * 5) (ordCells q.day a m m q.disc q.tax q.ship).toList).heap.size ∧ (xs ++ [q]).length = k + 1 ∧ (cs ++ [ordCells q.day a m m q.disc q.tax q.ship]).length = k + 1 ∧ (∀ i (h1 : i < (xs ++ [q]).length) (h2 : i < (cs ++ [ordCells q.day a m m q.disc q.tax q.ship]).length), OrdPart w.heap.size g (w6.setCells g (k * 5) (ordCells q.day a m m q.disc q.tax q.ship).toList) (xs ++ [q])[i] (cs ++ [ordCells q.day a m m q.disc q.tax q.ship])[i]) ∧ (∀ l ∈ xs ++ [q], OrdFit l) ∧ ∀ (xs0 : List Ord) r, (∀ l ∈ xs0, OrdSmall l) → xs0.length < 256 → rest = [u8of xs0.length] ++ (ordsBytes xs0 ++ r) → n = xs0.length ∧ xs ++ [q] = xs0.take (k + 1) ∧ rest5 = ordsBytes (xs0.drop (k + 1)) ++ r) := by
        refine ⟨Nat.lt_of_lt_of_le hgw (Nat.le_trans u2.size hus.size), by rw [List.length_append, hpl]; rfl, by rw [List.length_append, hpc]; rfl, fun i h1 h2 => ?_, fun l hl => ?_, fun xs0 r h1 h2 h3 => ?_⟩
        · by_cases e : i = k
          · subst e
            rw [List.getElem_append_right (by omega), List.getElem_append_right (by omega)]
            simp only [hpl, hpc, Nat.sub_self, List.getElem_cons_zero]
            exact hnl.upd hus (fun k e => .inr e)
          · have i1 : i < xs.length := by rw [List.length_append, hpl] at h1; simp at h1; omega
            have i2 : i < cs.length := by omega
            rw [List.getElem_append_left i1, List.getElem_append_left i2]
            exact ((HK.out.2.2.2.1 i i1 i2).upd u2 (fun k e => .inl (by have := hown.out; omega))).upd hus (fun k e => .inr e)
        · rcases List.mem_append.1 hl with hl | hl
          · exact HK.out.2.2.2.2.1 l hl
          · rw [List.mem_singleton.1 hl]; exact f2
        · obtain ⟨e1, e2, e3⟩ := HK.out.2.2.2.2.2 xs0 r h1 h2 h3
          have hkq : k < xs0.length := by omega
          obtain ⟨e4, e5⟩ := T2.out xs0[k] (ordsBytes (xs0.drop (k + 1)) ++ r) (h1 _ (List.getElem_mem hkq)) (by rw [e3, ordsBytes_drop xs0 k hkq, List.append_assoc])
          exact ⟨e1, by rw [List.take_succ_eq_append_getElem hkq, ← e2, e4], e5⟩
      clear HC i2 u2 t2 T2 HK HR R6 hpl hpc hgw f2 nl hsz hus hnl
      have hqs : (ordCells q.day a m m q.disc q.tax q.ship).size = 5 := rfl
      generalize ordCells q.day a m m q.disc q.tax q.ship = qc at *
      go_wp2
      go_roundw
      case rel => exact ⟨k + 1, _, _, _, _, by omega, by go_num, R7.out, HK7.out⟩
      case measure => simp [intOf]; omega
    · obtain rfl : k = n := by omega
      have HK2 : Hid (_) := HK.out
      clear HK
      go_wp2
      go_ret
      obtain ⟨hgw, hpl, hpc, hpart, hf, hk3⟩ := HK2.out
      refine ⟨g, k, xs, rest4, bad4, rfl, hn, hpl, fun W hW => .inr ⟨g, 0, rfl, Nat.lt_of_lt_of_le hgw hW.size, fun i hi => ?_⟩, hf, HR.out.inp, HR.out.upd, fun xs0 r h1 h2 h3 => ?_⟩
      · have hic : i < cs.length := by omega
        obtain ⟨a, n, e, ⟨n1, n2, gl, rfl, -, n4, n5⟩, -⟩ := (hpart i hi hic).upd hW (fun k e => .inl e)
        have hr := (HR.out.row i hic).upd hW (by have := HR.out.ge; omega)
        rw [e] at hr
        rw [Nat.zero_add]
        exact ⟨_, n, n, hr, n1, Nat.le_refl _, by unfold maxLen; omega, .inr ⟨gl, 0, rfl, n4, fun j hj => by rw [Nat.zero_add]; exact n5 j hj⟩⟩
      · obtain ⟨e1, e2, e3⟩ := hk3 xs0 r h1 h2 h3
        rw [e1, List.take_length] at e2
        rw [e1, List.drop_length] at e3
        exact ⟨e2, by rw [e3]; rfl⟩
end Go.Proofs.YtbiompjhenkieaaGreat
