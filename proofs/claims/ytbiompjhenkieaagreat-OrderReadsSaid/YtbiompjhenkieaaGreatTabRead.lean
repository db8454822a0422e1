/-
  Package table: a policy out of bytes, a table out of bytes: readOne, read. Conditions: those of each theorem.
-/
import Derived.Test.YtbiompjhenkieaaGreatTabPut
import Derived.Test.YtbiompjhenkieaaGreatPolRow
import Derived.Test.YtbiompjhenkieaaGreatCodecB
import Derived.StillTailTactics
namespace Go.Proofs.YtbiompjhenkieaaGreat
open Go.RowKit
set_option maxRecDepth 100000

theorem took_le {v : Int} {n : Nat} (r : List UInt8) (bad : Bool) : took (le v n ++ r) bad (n : Int) = (le v n, r, bad) := by
  have hc : canTake (le v n ++ r) n = true := by simp [canTake, le_length]; omega
  unfold took
  rw [if_pos hc]
  have e : (le v n).length = n := le_length v n
  have e2 : ((n : Int)).toNat = n := by omega
  rw [e2]
  simp only [Prod.mk.injEq, and_true]
  exact ⟨by rw [List.take_append_of_le_length (by omega), List.take_of_length_le (by omega)], by rw [List.drop_append_of_le_length (by omega), List.drop_of_length_le (by omega), List.nil_append]⟩
theorem num_le_pow {xs : List UInt8} {n : Nat} (h : xs.length ≤ n) : numLe xs < 256 ^ n := Nat.lt_of_lt_of_le (numLe_lt xs) (Nat.pow_le_pow_right (by decide) h)

/-- What a reading of n bytes tells: v, and what is left. -/
structure Told (n : Nat) (rest : List UInt8) (v : Nat) (rest' : List UInt8) : Prop where
  small : v < 256 ^ n
  told : ∀ (x : Int) r, fits x n = true → rest = le x n ++ r → (v : Int) = x ∧ rest' = r
theorem told_took (n : Nat) (rest : List UInt8) (bad : Bool) : Told n rest (numLe (took rest bad n).1) (took rest bad n).2.1 :=
  ⟨num_le_pow (took_len rest bad n), fun x r hx h => by
    subst h
    rw [took_le]
    exact ⟨numLe_fits hx, rfl⟩⟩
theorem in_u16t {w : World} {p : Nat} {S : Nat → Prop} {rest : List UInt8} {bad : Bool} (h : InAt w p S rest bad) :
    Calls Tryz.prog 67 #[.pointer (some ⟨p, 0, none⟩)] w fun e w' => ∃ (v : Nat) (rest' : List UInt8) (bad' : Bool), e = .returned (.int .i64 v) ∧ InAt w' p S rest' bad' ∧ Upd (fun k => k = p) w w' ∧ Told 2 rest v rest' :=
  (in_u16 h).mono fun _ _ ⟨he, d⟩ => ⟨_, _, _, he, d.1, d.2, told_took 2 rest bad⟩
theorem in_u8t {w : World} {p : Nat} {S : Nat → Prop} {rest : List UInt8} {bad : Bool} (h : InAt w p S rest bad) :
    Calls Tryz.prog 68 #[.pointer (some ⟨p, 0, none⟩)] w fun e w' => ∃ (v : Nat) (rest' : List UInt8) (bad' : Bool), e = .returned (.int .i64 v) ∧ InAt w' p S rest' bad' ∧ Upd (fun k => k = p) w w' ∧ Told 1 rest v rest' :=
  (in_u8 h).mono fun _ _ ⟨he, d⟩ => ⟨_, _, _, he, d.1, d.2, told_took 1 rest bad⟩

theorem feeBytes_cut (q : Pol) (k : Nat) (h : k ≤ 4) : ∃ s, feeBytes q 4 = feeBytes q k ++ s := by
  match k, h with
  | 0, _ => exact ⟨feeBytes q 4, rfl⟩
  | 1, _ => exact ⟨le (q.fee 1) 2 ++ (le (q.fee 2) 2 ++ le (q.fee 3) 2), by simp only [feeBytes, List.append_assoc]⟩
  | 2, _ => exact ⟨le (q.fee 2) 2 ++ le (q.fee 3) 2, by simp only [feeBytes, List.append_assoc]⟩
  | 3, _ => exact ⟨le (q.fee 3) 2, rfl⟩
  | 4, _ => exact ⟨[], by rw [List.append_nil]⟩
theorem gradeBytes_cut (q : Pol) (k : Nat) (h : k ≤ 4) : ∃ s, gradeBytes q 4 = gradeBytes q k ++ s := by
  match k, h with
  | 0, _ => exact ⟨gradeBytes q 4, rfl⟩
  | 1, _ => exact ⟨(le (q.share 1) 2 ++ [u8of (q.dest 1)]) ++ ((le (q.share 2) 2 ++ [u8of (q.dest 2)]) ++ (le (q.share 3) 2 ++ [u8of (q.dest 3)])), by simp only [gradeBytes, List.append_assoc]⟩
  | 2, _ => exact ⟨(le (q.share 2) 2 ++ [u8of (q.dest 2)]) ++ (le (q.share 3) 2 ++ [u8of (q.dest 3)]), by simp only [gradeBytes, List.append_assoc]⟩
  | 3, _ => exact ⟨le (q.share 3) 2 ++ [u8of (q.dest 3)], rfl⟩
  | 4, _ => exact ⟨[], by rw [List.append_nil]⟩

theorem pol_all (p : Pol) : (p.arr.all fun x => x.oneCell') = true := by
  refine Array.all_eq_true_iff_forall_mem.2 fun u hu => ?_
  simp only [Pol.arr, List.mem_toArray, List.mem_cons, List.not_mem_nil, or_false] at hu
  rcases hu with rfl | rfl | rfl | rfl | rfl | rfl | rfl | rfl | rfl | rfl | rfl | rfl | rfl | rfl | rfl | rfl <;> rfl
/-- A whole row into a block of its size, as the walk leaves it. -/
theorem run_storeCells_row {P : Program} (w : World) (g : Nat) (t : TypeId) (old cells : Array Value) (hg : w.heap[g]? = some (.cells old t (0, 0))) (hi : (P.info? t).map (·.size) = some cells.size) (ho : old.size = cells.size) (h1 : cells.all (·.oneCell') = true) :
    (storeCells ⟨g, 0, none⟩ cells.toList 0).run P w = .ok () (w.setRow g cells) := by
  have := run_storeVar_row (P := P) w g t t old cells hg hi ho h1
  cases hq : P.info? t with
  | none => simp [hq] at hi
  | some i =>
    have hs : cells.size = i.size := by simp [hq] at hi; omega
    simpa [storeVar, sizeOf, typeInfo, hq, Value.cells, hs] using this
theorem upd_setRow (w : World) (g : Nat) (cs : Array Value) : Upd (fun k => k = g) w (w.setRow g cs) :=
  ⟨rfl, rfl, rfl, by simp [World.setRow], fun k _ hn => by
    have hn' : g ≠ k := fun e => hn e.symm
    simp [World.setRow, Array.getElem?_modify, hn']⟩
theorem setRow_at {w : World} {g : Nat} {old : Array Value} {t : TypeId} (h : w.heap[g]? = some (.cells old t (0, 0))) (cs : Array Value) : ∃ fr, (w.setRow g cs).heap[g]? = some (.cells cs t fr) :=
  ⟨(0, 0), by simp [World.setRow, Array.getElem?_modify, h]⟩

/-- A policy's box, and an In, in the middle of readOne. -/
structure Rdg (w : World) (p : Nat) (S : Nat → Prop) (g : Nat) (q : Pol) (rest : List UInt8) (bad : Bool) (W : World) : Prop where
  inp : InAt W p S rest bad
  upd : Upd (fun k => k = p) w W
  box : PolBox W g q
  res : W.heap[w.heap.size]? = some (.cells (Pol.arr ⟨0, false, false, false, fun _ => 0, fun _ => 0, fun _ => 0⟩) 64 (0, 0))
  ge : w.heap.size < g
  own : p < w.heap.size
  sep : ∀ k, S k → k < w.heap.size
section
variable {w W W' : World} {p g : Nat} {S : Nat → Prop} {q : Pol} {rest rest' : List UInt8} {bad bad' : Bool}
theorem Rdg.next (h : Rdg w p S g q rest bad W) (hi : InAt W' p S rest' bad') (hu : Upd (fun k => k = p) W W') : Rdg w p S g q rest' bad' W' :=
  ⟨hi, h.upd.trans hu (fun _ _ x => x), h.box.upd hu (fun e => by have := h.ge; have := h.own; omega),
    (hu.block w.heap.size (Array.getElem?_eq_some_iff.1 h.res).1 (fun e => by have := h.own; omega)).trans h.res, h.ge, h.own, h.sep⟩
theorem Rdg.put (h : Rdg w p S g q rest bad W) {q' : Pol} (o : Nat) (u : Value) (hb : PolBox (W.setCell ⟨g, o, none⟩ u) g q') : Rdg w p S g q' rest bad (W.setCell ⟨g, o, none⟩ u) :=
  ⟨h.inp.upd (upd_set (w := W) (p := g) o u) (fun k hk e => by have := h.sep k hk; have := h.ge; omega), h.upd.setCell (p := ⟨g, o, none⟩) (.inr (by have := h.ge; show _ ≤ g; omega)) u, hb,
    ((upd_set (w := W) (p := g) o u).block _ (Array.getElem?_eq_some_iff.1 h.res).1 (fun e => by have := h.ge; omega)).trans h.res, h.ge, h.own, h.sep⟩
theorem Rdg.fee (h : Rdg w p S g q rest bad W) (k : Nat) (hk : k < 4) (v : Int) : Rdg w p S g (q.setFee k v) rest bad (W.setCell ⟨g, 4 + k, none⟩ (.int .i64 v)) := h.put _ _ (h.box.setFee k hk v)
theorem Rdg.share (h : Rdg w p S g q rest bad W) (k : Nat) (hk : k < 4) (v : Int) : Rdg w p S g (q.setShare k v) rest bad (W.setCell ⟨g, 8 + k * 2, none⟩ (.int .i64 v)) := h.put _ _ (h.box.setShare k hk v)
theorem Rdg.dest (h : Rdg w p S g q rest bad W) (k : Nat) (hk : k < 4) (v : Int) : Rdg w p S g (q.setDest k v) rest bad (W.setCell ⟨g, 8 + k * 2 + 1, none⟩ (.int .i64 v)) := h.put _ _ (h.box.setDest k hk v)
theorem Rdg.drew (h : Rdg w p S g q rest bad W) : Rdg w p S g q rest bad W.drew :=
  ⟨h.inp.below ⟨rfl, rfl, rfl, Nat.le_refl _, fun _ _ => rfl⟩, h.upd.drew, h.box.drew, h.res, h.ge, h.own, h.sep⟩
end

theorem PolBox.setFlags {w : World} {g : Nat} {p : Pol} (h : PolBox w g p) (f1 f2 f3 : Bool) : PolBox (((w.setCell ⟨g, 1, none⟩ (.bool f1)).setCell ⟨g, 2, none⟩ (.bool f2)).setCell ⟨g, 3, none⟩ (.bool f3)) g { p with fin := f1, exc := f2, cre := f3 } := by
  refine ⟨⟨by simpa [setCell_size] using h.at0.lt, fun j x hj => ?_⟩, fun j => by simpa using h.fz j⟩
  have hj16 : j < 16 := (Array.getElem?_eq_some_iff.1 hj).1
  rw [Nat.zero_add]
  by_cases e3 : j = 3
  · subst e3
    rw [← Option.some.inj hj]
    exact cell_same (v := .bool p.cre) (by rw [cell_other (by omega), cell_other (by omega)]; exact h.at0.cre)
  rw [cell_other e3]
  by_cases e2 : j = 2
  · subst e2
    rw [← Option.some.inj hj]
    exact cell_same (v := .bool p.exc) (by rw [cell_other (by omega)]; exact h.at0.exc)
  rw [cell_other e2]
  by_cases e1 : j = 1
  · subst e1
    rw [← Option.some.inj hj]
    exact cell_same (v := .bool p.fin) h.at0.fin
  rw [cell_other e1]
  have := h.at0.cells j x (by
    rw [← hj]
    match j, hj16, e1, e2, e3 with
    | 0, _, _, _, _ | 4, _, _, _, _ | 5, _, _, _, _ | 6, _, _, _, _ | 7, _, _, _, _ | 8, _, _, _, _ | 9, _, _, _, _ | 10, _, _, _, _ | 11, _, _, _, _ | 12, _, _, _, _ | 13, _, _, _, _ | 14, _, _, _, _ | 15, _, _, _, _ => rfl)
  rwa [Nat.zero_add] at this
theorem Rdg.flags {w W : World} {p g : Nat} {S : Nat → Prop} {q : Pol} {rest : List UInt8} {bad : Bool} (h : Rdg w p S g q rest bad W) (f1 f2 f3 : Bool) :
    Rdg w p S g { q with fin := f1, exc := f2, cre := f3 } rest bad (((W.setCell ⟨g, 1, none⟩ (.bool f1)).setCell ⟨g, 2, none⟩ (.bool f2)).setCell ⟨g, 3, none⟩ (.bool f3)) := by
  have hu : Upd (fun k => k = g) W (((W.setCell ⟨g, 1, none⟩ (.bool f1)).setCell ⟨g, 2, none⟩ (.bool f2)).setCell ⟨g, 3, none⟩ (.bool f3)) :=
    (((Upd.refl (fun k => k = g) W).setCell (p := ⟨g, 1, none⟩) (.inl rfl) _).setCell (p := ⟨g, 2, none⟩) (.inl rfl) _).setCell (p := ⟨g, 3, none⟩) (.inl rfl) _
  have hg := h.ge
  refine ⟨h.inp.upd hu (fun k hk e => by have := h.sep k hk; omega), h.upd.trans (hu.mono (S' := fun k => k = p ∨ w.heap.size ≤ k) (fun k _ e => .inr (by omega))) (fun k hk e => e.elim id (fun x => by omega)), h.box.setFlags f1 f2 f3,
    (hu.block _ (Array.getElem?_eq_some_iff.1 h.res).1 (fun e => by omega)).trans h.res, hg, h.own, h.sep⟩

/-- The flags, as readOne has them. -/
def bitAt (v : Nat) (m : Int) : Bool := bits .and .i64 (v : Int) m != 0
theorem bits_flags {q : Pol} {v : Nat} (h : (v : Int) = q.flags) : bitAt v 1 = q.fin ∧ bitAt v 2 = q.exc ∧ bitAt v 4 = q.cre := by
  have key : ∀ a b c : Bool, ∀ v : Fin 8, ((v : Nat) : Int) = (if a then 1 else 0) + (if b then 2 else 0) + (if c then 4 else 0) → bitAt v 1 = a ∧ bitAt v 2 = b ∧ bitAt v 4 = c := by decide +kernel
  have := q.flags_small
  exact key q.fin q.exc q.cre ⟨v, by omega⟩ h

/-- What readOne answers, and leaves. -/
def OneRead (w : World) (p : Nat) (S : Nat → Prop) (rest : List UInt8) (e : Ending) (w' : World) : Prop :=
  ∃ (q : Pol) (rest' : List UInt8) (bad' : Bool), e = .returned (.agg q.arr) ∧ InAt w' p S rest' bad' ∧ Upd (fun k => k = p) w w' ∧ ∀ (q0 : Pol) r, RightP q0 → rest = polBytes q0 ++ r → q.arr = q0.arr ∧ rest' = r

set_option maxHeartbeats 4000000 in
theorem tab_readOne {w : World} {p : Nat} {S : Nat → Prop} {rest : List UInt8} {bad : Bool} (h : InAt w p S rest bad) :
    Calls Tryz.prog 92 #[.pointer (some ⟨p, 0, none⟩)] w (OneRead w p S rest) := by
  have hown := h.lt p h.own
  have hsep := Lib.hid h.lt
  have hz : (w.alloc (.cells (Pol.arr ⟨0, false, false, false, fun _ => 0, fun _ => 0, fun _ => 0⟩) 64)).heap[w.heap.size]? = some (.cells (Pol.arr ⟨0, false, false, false, fun _ => 0, fun _ => 0, fun _ => 0⟩) 64 (0, 0)) := heap_alloc_new _ _
  have HZ : Aside _ := hz
  have H1 : Aside (InAt (w.alloc (.cells (Pol.arr ⟨0, false, false, false, fun _ => 0, fun _ => 0, fun _ => 0⟩) 64)) p S rest bad) := h.below (upd_box _)
  have HU1 : Aside (Upd (fun k => k = p) w (w.alloc (.cells (Pol.arr ⟨0, false, false, false, fun _ => 0, fun _ => 0, fun _ => 0⟩) 64))) := (Upd.refl _ _).alloc _
  have hs1 : Hid (w.heap.size < (w.alloc (.cells (Pol.arr ⟨0, false, false, false, fun _ => 0, fun _ => 0, fun _ => 0⟩) 64)).heap.size) := by show _ < _; simp
  clear hz h
  go_enter Tryz.func92, Tryz.ntmps92
  go_upto_region 1 with (fail)
  show Code.wp _ _ _ _ (w.alloc (.cells (Pol.arr ⟨0, false, false, false, fun _ => 0, fun _ => 0, fun _ => 0⟩) 64))
  generalize w.alloc (.cells (Pol.arr ⟨0, false, false, false, fun _ => 0, fun _ => 0, fun _ => 0⟩) 64) = w1 at *
  have HC : Aside _ := in_u16t H1.out
  go_wp2_with fail
  refine Calls.mono HC.out ?_
  rintro e w2 ⟨V, rest2, bad2, rfl, i2, u2, t2⟩
  have I2 : Aside (InAt w2 p S rest2 bad2) := i2
  have U2 : Aside (Upd (fun k => k = p) w w2) := HU1.out.trans u2 (fun _ _ x => x)
  have Z2 : Aside _ := (u2.block w.heap.size hs1.out (fun e => by omega)).trans HZ.out
  have hs2 : Hid (w.heap.size < w2.heap.size) := Nat.lt_of_lt_of_le hs1.out u2.size
  have T2 : Hid (Told 2 rest V rest2) := t2
  clear HC i2 u2 t2 H1 HU1 HZ hs1
  go_upto_region 2 with (fail)
  have R2' : Rdg w p S w2.heap.size (⟨V, false, false, false, fun _ => 0, fun _ => 0, fun _ => 0⟩ : Pol) rest2 bad2 (w2.alloc (.cells (Pol.arr ⟨V, false, false, false, fun _ => 0, fun _ => 0, fun _ => 0⟩) 64)) :=
    ⟨I2.out.below (upd_box _), U2.out.alloc _, polBox_new w2 _ _, (Below.heap_alloc w2 _ _ hs2.out).trans Z2.out, hs2.out, hown, hsep.out⟩
  have R2 : Aside (Rdg w p S w2.heap.size (⟨V, false, false, false, fun _ => 0, fun _ => 0, fun _ => 0⟩ : Pol) rest2 bad2 (w2.alloc (.cells (Pol.arr ⟨V, false, false, false, fun _ => 0, fun _ => 0, fun _ => 0⟩) 64))) := R2'
  show Code.wp _ _ _ _ (w2.alloc (.cells (Pol.arr ⟨V, false, false, false, fun _ => 0, fun _ => 0, fun _ => 0⟩) 64))
  clear R2' I2 U2 Z2 hs2
  generalize w2.alloc (.cells (Pol.arr ⟨V, false, false, false, fun _ => 0, fun _ => 0, fun _ => 0⟩) 64) = w3 at *
  generalize w2.heap.size = g at *
  have HC : Aside _ := in_u8t R2.out.inp
  go_wp2_with fail
  refine Calls.mono HC.out ?_
  rintro e w4 ⟨F, rest3, bad3, rfl, i2, u2, t2⟩
  have R3 : Aside _ := R2.out.next i2 u2
  have T3 : Hid (Told 1 rest2 F rest3) := t2
  clear HC i2 u2 t2 R2
  have c1 := R3.out.box.at0.fin
  have c2 := R3.out.box.at0.exc
  have c3 := R3.out.box.at0.cre
  have cf := R3.out.box.fz
  have HB1 : Hid (∀ v : Int, (bits .and .i64 (F : Int) v != 0) = bitAt F v) := fun _ => rfl
  have hb1 := HB1.out 1
  have hb2 := HB1.out 2
  have hb4 := HB1.out 4
  go_upto_region 4 with (fail)
  have R4' := R3.out.flags (bitAt F 1) (bitAt F 2) (bitAt F 4)
  have R4 : Aside _ := R4'
  clear R4' R3 c1 c2 c3 cf HB1 hb1 hb2 hb4
  generalize (((w4.setCell ⟨g, 1, none⟩ (.bool (bitAt F 1))).setCell ⟨g, 2, none⟩ (.bool (bitAt F 2))).setCell ⟨g, 3, none⟩ (.bool (bitAt F 4))) = w5 at *
  have HQ : Hid (∀ (q0 : Pol) r, RightP q0 → rest = polBytes q0 ++ r → (V : Int) = q0.win ∧ bitAt F 1 = q0.fin ∧ bitAt F 2 = q0.exc ∧ bitAt F 4 = q0.cre ∧ rest3 = feeBytes q0 4 ++ gradeBytes q0 4 ++ r) := fun q0 r hq hr => by
    have hw := hq.win
    have hf := q0.flags_small
    obtain ⟨e1, e2⟩ := T2.out.told q0.win ([u8of q0.flags] ++ (feeBytes q0 4 ++ gradeBytes q0 4) ++ r) (fits_two hw.1 (by omega)) (by rw [hr, polBytes]; simp only [List.append_assoc])
    obtain ⟨e3, e4⟩ := T3.out.told q0.flags (feeBytes q0 4 ++ gradeBytes q0 4 ++ r) (fits_one hf.1 (by omega)) (by rw [le_one hf.1 (by omega), e2]; simp only [List.append_assoc])
    exact ⟨e1, (bits_flags e3).1, (bits_flags e3).2.1, (bits_flags e3).2.2, e4⟩
  clear T2 T3
  generalize bitAt F 1 = f1 at *
  generalize bitAt F 2 = f2 at *
  generalize bitAt F 4 = f3 at *
  go_wp2
  go_loopw [24] (fun i wr => ∃ (k : Nat) (q : Pol) (rest4 : List UInt8) (bad4 : Bool), k ≤ 4 ∧ i = .int .i64 k ∧ Aside (Rdg w p S g q rest4 bad4 wr) ∧ Hid (∀ (q0 : Pol) r, RightP q0 → rest = polBytes q0 ++ r → q.win = q0.win ∧ q.fin = q0.fin ∧ q.exc = q0.exc ∧ q.cre = q0.cre ∧ (∀ j, j < k → q.fee j = q0.fee j) ∧ ∀ s, feeBytes q0 4 = feeBytes q0 k ++ s → rest4 = s ++ gradeBytes q0 4 ++ r)) (fun i _ => 4 - (intOf i).toNat)
  case atStart =>
    refine ⟨0, _, _, _, Nat.zero_le _, rfl, R4.out, fun q0 r hq hr => ?_⟩
    obtain ⟨e1, e2, e3, e4, e5⟩ := HQ.out q0 r hq hr
    exact ⟨e1, e2, e3, e4, fun j hj => by omega, fun s hs => by rw [e5, hs]; rfl⟩
  case round =>
    clear R4 HQ
    obtain ⟨k, q, rest4, bad4, hk, rfl, R, HK⟩ := hrel
    by_cases hlt : k < 4
    · have hlt' : (k : Int) < 4 := by omega
      have HC : Aside _ := in_u16t R.out.inp
      go_wp2_with fail
      refine Calls.mono HC.out ?_
      rintro e w6 ⟨v, rest5, bad5, rfl, i2, u2, t2⟩
      have R6 : Aside _ := R.out.next i2 u2
      have T6 : Hid (Told 2 rest4 v rest5) := t2
      clear HC i2 u2 t2 R
      have xc := R6.out.box.at0.fee k hlt
      have xf := R6.out.box.fz
      have R7 : Aside _ := R6.out.fee k hlt v
      have HK7 : Hid (∀ (q0 : Pol) r, RightP q0 → rest = polBytes q0 ++ r → (q.setFee k v).win = q0.win ∧ (q.setFee k v).fin = q0.fin ∧ (q.setFee k v).exc = q0.exc ∧ (q.setFee k v).cre = q0.cre ∧ (∀ j, j < k + 1 → (q.setFee k v).fee j = q0.fee j) ∧ ∀ s, feeBytes q0 4 = feeBytes q0 (k + 1) ++ s → rest5 = s ++ gradeBytes q0 4 ++ r) := fun q0 r hq hr => by
        obtain ⟨e1, e2, e3, e4, e5, e6⟩ := HK.out q0 r hq hr
        have hf := hq.fee k hlt
        have hsp : ∀ s, feeBytes q0 4 = feeBytes q0 (k + 1) ++ s → (v : Int) = q0.fee k ∧ rest5 = s ++ gradeBytes q0 4 ++ r := fun s hs => by
          have e7 := e6 (le (q0.fee k) 2 ++ s) (by rw [hs, feeBytes, List.append_assoc])
          exact T6.out.told (q0.fee k) (s ++ gradeBytes q0 4 ++ r) (fits_two hf.1 (by omega)) (by rw [e7]; simp only [List.append_assoc])
        obtain ⟨s0, hs0⟩ := feeBytes_cut q0 (k + 1) (by omega)
        refine ⟨e1, e2, e3, e4, fun j hj => ?_, fun s hs => (hsp s hs).2⟩
        by_cases h : j = k
        · subst h
          exact (putAt_same q.fee j v).trans (hsp s0 hs0).1
        · exact (putAt_other q.fee v h).trans (e5 j (by omega))
      clear HK T6 R6
      go_wp2
      go_roundw
      case rel => exact ⟨k + 1, _, _, _, by omega, by go_num, R7.out, HK7.out⟩
      case measure => simp [intOf]; omega
    · have hkE : k = 4 := by omega
      have hlt' : ¬ (k : Int) < 4 := by omega
      have HQ : Hid (∀ (q0 : Pol) r, RightP q0 → rest = polBytes q0 ++ r → q.win = q0.win ∧ q.fin = q0.fin ∧ q.exc = q0.exc ∧ q.cre = q0.cre ∧ (∀ j, j < 4 → q.fee j = q0.fee j) ∧ rest4 = gradeBytes q0 4 ++ r) := fun q0 r hq hr => by
        obtain ⟨e1, e2, e3, e4, e5, e6⟩ := HK.out q0 r hq hr
        rw [hkE] at e5 e6
        exact ⟨e1, e2, e3, e4, e5, by rw [e6 [] (by rw [List.append_nil])]; rfl⟩
      clear hkE HK
      generalize wr = wo at *
      go_wp2
      go_loopw [33] (fun i wr => ∃ (k : Nat) (q : Pol) (rest4 : List UInt8) (bad4 : Bool), k ≤ 4 ∧ i = .int .i64 k ∧ Aside (Rdg w p S g q rest4 bad4 wr) ∧ Hid (∀ (q0 : Pol) r, RightP q0 → rest = polBytes q0 ++ r → q.win = q0.win ∧ q.fin = q0.fin ∧ q.exc = q0.exc ∧ q.cre = q0.cre ∧ (∀ j, j < 4 → q.fee j = q0.fee j) ∧ (∀ j, j < k → q.share j = q0.share j ∧ q.dest j = q0.dest j) ∧ ∀ s, gradeBytes q0 4 = gradeBytes q0 k ++ s → rest4 = s ++ r)) (fun i _ => 4 - (intOf i).toNat)
      case atStart =>
        refine ⟨0, _, _, _, Nat.zero_le _, rfl, R.out, fun q0 r hq hr => ?_⟩
        obtain ⟨e1, e2, e3, e4, e5, e6⟩ := HQ.out q0 r hq hr
        exact ⟨e1, e2, e3, e4, e5, fun j hj => by omega, fun s hs => by rw [e6, hs]; rfl⟩
      case round =>
        clear R HQ
        obtain ⟨k2, q, rest4, bad4, hk2, rfl, R, HK⟩ := hrel
        by_cases hlt2 : k2 < 4
        · have hlt2' : (k2 : Int) < 4 := by omega
          have HC : Aside _ := in_u16t R.out.inp
          go_wp2_with fail
          refine Calls.mono HC.out ?_
          rintro e w6 ⟨v, rest5, bad5, rfl, i2, u2, t2⟩
          have R6 : Aside _ := R.out.next i2 u2
          have T6 : Hid (Told 2 rest4 v rest5) := t2
          clear HC i2 u2 t2 R
          have xc := R6.out.box.at0.share k2 hlt2
          have xf := R6.out.box.fz
          have R7' := R6.out.share k2 hlt2 v
          go_upto_region 13 with (fail)
          have R7 : Aside _ := R7'
          clear R7' R6 xc xf
          generalize w6.setCell ⟨g, 8 + k2 * 2, none⟩ (.int .i64 v) = w7 at *
          have HC : Aside _ := in_u8t R7.out.inp
          go_wp2_with fail
          refine Calls.mono HC.out ?_
          rintro e w8 ⟨d, rest6, bad6, rfl, i2, u2, t2⟩
          have R8 : Aside _ := R7.out.next i2 u2
          have T8 : Hid (Told 1 rest5 d rest6) := t2
          clear HC i2 u2 t2 R7
          have xc := R8.out.box.at0.dest k2 hlt2
          have xf := R8.out.box.fz
          have R9 : Aside _ := R8.out.dest k2 hlt2 d
          have HK9 : Hid (∀ (q0 : Pol) r, RightP q0 → rest = polBytes q0 ++ r → ((q.setShare k2 v).setDest k2 d).win = q0.win ∧ ((q.setShare k2 v).setDest k2 d).fin = q0.fin ∧ ((q.setShare k2 v).setDest k2 d).exc = q0.exc ∧ ((q.setShare k2 v).setDest k2 d).cre = q0.cre ∧ (∀ j, j < 4 → ((q.setShare k2 v).setDest k2 d).fee j = q0.fee j) ∧ (∀ j, j < k2 + 1 → ((q.setShare k2 v).setDest k2 d).share j = q0.share j ∧ ((q.setShare k2 v).setDest k2 d).dest j = q0.dest j) ∧ ∀ s, gradeBytes q0 4 = gradeBytes q0 (k2 + 1) ++ s → rest6 = s ++ r) := fun q0 r hq hr => by
            obtain ⟨e1, e2, e3, e4, e5, e6, e7⟩ := HK.out q0 r hq hr
            have hf := hq.share k2 hlt2
            have hd := hq.dest k2 hlt2
            have hsp : ∀ s, gradeBytes q0 4 = gradeBytes q0 (k2 + 1) ++ s → (v : Int) = q0.share k2 ∧ (d : Int) = q0.dest k2 ∧ rest6 = s ++ r := fun s hs => by
              have e8 := e7 (le (q0.share k2) 2 ++ ([u8of (q0.dest k2)] ++ s)) (by rw [hs, gradeBytes]; simp only [List.append_assoc])
              obtain ⟨e9, ea⟩ := T6.out.told (q0.share k2) ([u8of (q0.dest k2)] ++ s ++ r) (fits_two hf.1 (by omega)) (by rw [e8]; simp only [List.append_assoc])
              obtain ⟨eb, ec⟩ := T8.out.told (q0.dest k2) (s ++ r) (fits_one hd.1 (by omega)) (by rw [le_one hd.1 (by omega), ea]; simp only [List.append_assoc])
              exact ⟨e9, eb, ec⟩
            obtain ⟨s0, hs0⟩ := gradeBytes_cut q0 (k2 + 1) (by omega)
            refine ⟨e1, e2, e3, e4, e5, fun j hj => ?_, fun s hs => (hsp s hs).2.2⟩
            by_cases h : j = k2
            · subst h
              exact ⟨(putAt_same q.share j v).trans (hsp s0 hs0).1, (putAt_same q.dest j d).trans (hsp s0 hs0).2.1⟩
            · exact ⟨(putAt_other q.share v h).trans (e6 j (by omega)).1, (putAt_other q.dest d h).trans (e6 j (by omega)).2⟩
          clear HK T6 T8 R8
          go_wp2
          go_roundw
          case rel => exact ⟨k2 + 1, _, _, _, by omega, by go_num, R9.out, HK9.out⟩
          case measure => simp [intOf]; omega
        · have hkE : k2 = 4 := by omega
          have hlt2' : ¬ (k2 : Int) < 4 := by omega
          have HQ : Hid (∀ (q0 : Pol) r, RightP q0 → rest = polBytes q0 ++ r → q.arr = q0.arr ∧ rest4 = r) := fun q0 r hq hr => by
            obtain ⟨e1, e2, e3, e4, e5, e6, e7⟩ := HK.out q0 r hq hr
            rw [hkE] at e6 e7
            refine ⟨?_, by rw [e7 [] (by rw [List.append_nil])]; rfl⟩
            unfold Pol.arr
            rw [e1, e2, e3, e4, e5 0 (by decide), e5 1 (by decide), e5 2 (by decide), e5 3 (by decide), (e6 0 (by decide)).1, (e6 1 (by decide)).1, (e6 2 (by decide)).1, (e6 3 (by decide)).1, (e6 0 (by decide)).2, (e6 1 (by decide)).2, (e6 2 (by decide)).2, (e6 3 (by decide)).2]
          clear hkE HK
          have hcs := R.out.box.at0.cells
          have hres := R.out.res
          have hnot : ∀ k, S k → k ≠ w.heap.size := fun k hk e => by have := hsep.out k hk; omega
          have hwr : w.heap.size < wr.heap.size := (Array.getElem?_eq_some_iff.1 hres).1
          have HI : Aside _ := R.out.inp
          have HU : Aside _ := R.out.upd
          have HNo := Lib.hid hnot
          clear R hnot
          generalize hg2 : w.heap.size = g2 at *
          have HG2 := Lib.hid hg2
          clear hg2
          have hst := run_storeCells_row (P := Tryz.prog) wr g2 64 _ q.arr hres info_pol rfl (pol_all q)
          obtain ⟨fr, hat⟩ := setRow_at hres q.arr
          have HAT := Lib.hid hat
          have HSU : Aside _ := upd_setRow wr g2 q.arr
          clear hres hat
          go_wp2_with (refine wpList_load_cells rfl 64 _ rfl g 0 rfl q.arr _ hcs Tryz.underlying64 rfl info_pol ?_)
          refine bodyPost_ret (results_cell_row rfl _ _ g2 64 q.arr fr _ rfl HAT.out Tryz.underlying64 rfl info_pol) rfl ?_
          refine ⟨q, rest4, bad4, rfl, HI.out.upd HSU.out HNo.out, HU.out.trans (HSU.out.mono (S' := fun k => w.heap.size ≤ k) (fun k _ e => by have := HG2.out; omega)) (fun k hk e => by omega), HQ.out⟩
end Go.Proofs.YtbiompjhenkieaaGreat
