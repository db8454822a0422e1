/-
  The document's bytes of a right table: recouplaw08.bytes. Conditions: those of each theorem. Right tables of the same bytes are the same. Plain. Conditions: those of each theorem.
-/
import Derived.Test.YtbiompjhenkieaaGreatPolX
import Derived.Test.YtbiompjhenkieaaGreatLeX
namespace Go.Proofs.YtbiompjhenkieaaGreat
open Go.RowKit
set_option maxRecDepth 100000

/-- A policy's flags, as a number. -/
def Pol.flags (p : Pol) : Int := (if p.fin then 1 else 0) + (if p.exc then 2 else 0) + (if p.cre then 4 else 0)
def u8of (v : Int) : UInt8 := UInt8.ofNat v.toNat
theorem u8of_val {v : Int} (h0 : 0 ≤ v) (h1 : v < 256) : (Value.int .u8 v) = bval (u8of v) := by
  unfold bval u8of
  rw [UInt8.toNat_ofNat', Nat.mod_eq_of_lt (by omega), Int.toNat_of_nonneg h0]
def feeBytes (p : Pol) : Nat → List UInt8
  | 0 => []
  | k + 1 => feeBytes p k ++ le (p.fee k) 2
def gradeBytes (p : Pol) : Nat → List UInt8
  | 0 => []
  | k + 1 => gradeBytes p k ++ (le (p.share k) 2 ++ [u8of (p.dest k)])
def polBytes (p : Pol) : List UInt8 := le p.win 2 ++ ([u8of p.flags] ++ (feeBytes p 4 ++ gradeBytes p 4))
def polsBytes (ps : List Pol) : List UInt8 := (ps.map polBytes).flatten
def tableBytes (ps : List Pol) : List UInt8 := le ps.length 2 ++ polsBytes ps
theorem feeBytes_length (p : Pol) (k : Nat) : (feeBytes p k).length = 2 * k := by
  induction k with
  | zero => rfl
  | succ k ih => simp only [feeBytes, List.length_append, ih, le_length]; omega
theorem gradeBytes_length (p : Pol) (k : Nat) : (gradeBytes p k).length = 3 * k := by
  induction k with
  | zero => rfl
  | succ k ih => simp only [gradeBytes, List.length_append, ih, le_length, List.length_singleton]; omega
theorem polBytes_length (p : Pol) : (polBytes p).length = 23 := by
  simp [polBytes, feeBytes_length, gradeBytes_length, le_length]
theorem polsBytes_length (ps : List Pol) : (polsBytes ps).length = 23 * ps.length := by
  induction ps with
  | nil => rfl
  | cons p ps ih => simp only [polsBytes, List.map_cons, List.flatten_cons, List.length_append, polBytes_length, List.length_cons] at ih ⊢; omega
theorem polsBytes_take (ps : List Pol) (k : Nat) (h : k < ps.length) : polsBytes (ps.take (k + 1)) = polsBytes (ps.take k) ++ polBytes ps[k] := by
  unfold polsBytes
  rw [List.take_succ_eq_append_getElem h, List.map_append, List.flatten_append]
  simp

/-- What the loops hold: the row of bytes, and a policy's box beside it. -/
structure Out3 (w0 w' : World) (g : Nat) (p : Pol) (a : Option Addr) (n c : Nat) (xs : List UInt8) : Prop where
  row : w'.ownsRow w0.heap.size 5 1 (.slice a n c) n (xs.map bval)
  pol : PolAt w' g 0 p
  apart : ∀ b, (Value.slice a n c).ownBlock = some b → b ≠ g
  below : Below w0.heap.size w0 w'
theorem Out3.later {w0 w' w2 : World} {g : Nat} {p : Pol} {a : Option Addr} {n c : Nat} {xs : List UInt8} (h : Out3 w0 w' g p a n c xs) (k : Below w'.heap.size w' w2) : Out3 w0 w2 g p a n c xs :=
  ⟨ownsRow_upd h.row (below_upd (fun _ => False) k) (fun _ _ x => x), h.pol.grown k, h.apart, h.below.trans (k.mono h.below.size)⟩
theorem Out3.more {w0 w2 w3 : World} {g : Nat} {p : Pol} {a a' : Option Addr} {n c k c' : Nat} {xs ys : List UInt8} (h : Out3 w0 w2 g p a n c xs)
    (h1 : w3.ownsRow w0.heap.size 5 1 (.slice a' k c') k ((xs ++ ys).map bval)) (h2 : Below w0.heap.size w2 w3) (h3 : ∀ g, (Value.slice a' k c').ownBlock = some g → (Value.slice a n c).ownBlock = some g ∨ w2.heap.size ≤ g)
    (h4 : Upd (fun g => (Value.slice a n c).ownBlock = some g) w2 w3) : Out3 w0 w3 g p a' k c' (xs ++ ys) :=
  ⟨h1, ⟨Nat.lt_of_lt_of_le h.pol.lt h4.size, fun j v hj => (h4.cell (p := ⟨g, 0 + j, none⟩) h.pol.lt (fun e => h.apart g e rfl)).trans (h.pol.cells j v hj)⟩, fun b hb e => by
    rcases h3 b hb with x | x
    · exact h.apart b x e
    · have := h.pol.lt; omega, h.below.trans h2⟩
theorem one_byte (w : World) (v : Int) (h0 : 0 ≤ v) (h1 : v < 256) (t : TypeId) : IsBytes (w.alloc (.cells #[.int .u8 v] t)) (some ⟨w.heap.size, 0, none⟩) [u8of v] := by
  refine .inr ⟨w.heap.size, 0, rfl, by simp, fun i hi => ?_⟩
  obtain rfl : i = 0 := by simpa using hi
  have := u8of_val h0 h1
  unfold bval at this
  rw [List.getElem_singleton, ← this]
  simp
theorem Pol.flags_small (p : Pol) : 0 ≤ p.flags ∧ p.flags < 8 := by
  unfold Pol.flags
  cases p.fin <;> cases p.exc <;> cases p.cre <;> decide
end Go.Proofs.YtbiompjhenkieaaGreat

namespace Go.Proofs.YtbiompjhenkieaaGreat
open Go.RowKit
set_option maxRecDepth 100000

theorem le_inj {v u : Int} (h0 : 0 ≤ v ∧ v ≤ 60000) (h1 : 0 ≤ u ∧ u ≤ 60000) (h : le v 2 = le u 2) : v = u := by
  obtain ⟨n, rfl⟩ := Int.eq_ofNat_of_zero_le h0.1
  obtain ⟨m, rfl⟩ := Int.eq_ofNat_of_zero_le h1.1
  have e1 := numLe_le n 2
  have e2 := numLe_le m 2
  rw [h, e2] at e1
  omega
theorem u8of_inj {v u : Int} (h0 : 0 ≤ v ∧ v < 256) (h1 : 0 ≤ u ∧ u < 256) (h : u8of v = u8of u) : v = u := by
  have e := (u8of_val h0.1 h0.2).trans (by rw [h])
  rw [← u8of_val h1.1 h1.2] at e
  injection e
theorem flags_inj {p q : Pol} (h : p.flags = q.flags) : p.fin = q.fin ∧ p.exc = q.exc ∧ p.cre = q.cre := by
  unfold Pol.flags at h
  revert h
  cases p.fin <;> cases p.exc <;> cases p.cre <;> cases q.fin <;> cases q.exc <;> cases q.cre <;> decide
theorem fees_inj {p q : Pol} (hp : RightP p) (hq : RightP q) : ∀ k, k ≤ 4 → feeBytes p k = feeBytes q k → ∀ i, i < k → p.fee i = q.fee i
  | 0, _, _, i, hi => by omega
  | k + 1, hk, h, i, hi => by
    obtain ⟨h1, h2⟩ := List.append_inj h (by rw [feeBytes_length, feeBytes_length])
    by_cases e : i = k
    · subst e
      exact le_inj ⟨(hp.fee i (by omega)).1, by have := (hp.fee i (by omega)).2; omega⟩ ⟨(hq.fee i (by omega)).1, by have := (hq.fee i (by omega)).2; omega⟩ h2
    · exact fees_inj hp hq k (by omega) h1 i (by omega)
theorem grades_inj {p q : Pol} (hp : RightP p) (hq : RightP q) : ∀ k, k ≤ 4 → gradeBytes p k = gradeBytes q k → ∀ i, i < k → p.share i = q.share i ∧ p.dest i = q.dest i
  | 0, _, _, i, hi => by omega
  | k + 1, hk, h, i, hi => by
    obtain ⟨h1, h2⟩ := List.append_inj h (by rw [gradeBytes_length, gradeBytes_length])
    by_cases e : i = k
    · subst e
      obtain ⟨h3, h4⟩ := List.append_inj h2 (by rw [le_length, le_length])
      refine ⟨le_inj ⟨(hp.share i (by omega)).1, by have := (hp.share i (by omega)).2; omega⟩ ⟨(hq.share i (by omega)).1, by have := (hq.share i (by omega)).2; omega⟩ h3, ?_⟩
      injection h4 with h4 _
      exact u8of_inj ⟨(hp.dest i (by omega)).1, by have := (hp.dest i (by omega)).2; omega⟩ ⟨(hq.dest i (by omega)).1, by have := (hq.dest i (by omega)).2; omega⟩ h4
    · exact grades_inj hp hq k (by omega) h1 i (by omega)
theorem pol_inj {p q : Pol} (hp : RightP p) (hq : RightP q) (h : polBytes p = polBytes q) : p.arr = q.arr := by
  obtain ⟨h1, h2⟩ := List.append_inj h (by rw [le_length, le_length])
  obtain ⟨h3, h4⟩ := List.append_inj h2 rfl
  obtain ⟨h5, h6⟩ := List.append_inj h4 (by rw [feeBytes_length, feeBytes_length])
  have e1 := le_inj ⟨hp.win.1, by have := hp.win.2; omega⟩ ⟨hq.win.1, by have := hq.win.2; omega⟩ h1
  injection h3 with h3 _
  have s1 := p.flags_small
  have s2 := q.flags_small
  obtain ⟨e2, e3, e4⟩ := flags_inj (u8of_inj ⟨s1.1, by omega⟩ ⟨s2.1, by omega⟩ h3)
  have f := fees_inj hp hq 4 (Nat.le_refl _) h5
  have g := grades_inj hp hq 4 (Nat.le_refl _) h6
  unfold Pol.arr
  rw [e1, e2, e3, e4, f 0 (by decide), f 1 (by decide), f 2 (by decide), f 3 (by decide), (g 0 (by decide)).1, (g 0 (by decide)).2, (g 1 (by decide)).1, (g 1 (by decide)).2, (g 2 (by decide)).1, (g 2 (by decide)).2, (g 3 (by decide)).1, (g 3 (by decide)).2]
theorem polsBytes_inj : ∀ {ps qs : List Pol}, (∀ p ∈ ps, RightP p) → (∀ p ∈ qs, RightP p) → ps.length = qs.length → polsBytes ps = polsBytes qs → ps.map Pol.arr = qs.map Pol.arr
  | [], [], _, _, _, _ => rfl
  | p :: ps, q :: qs, hp, hq, hl, h => by
    obtain ⟨h1, h2⟩ := List.append_inj (show polBytes p ++ polsBytes ps = polBytes q ++ polsBytes qs from h) (by rw [polBytes_length, polBytes_length])
    rw [List.map_cons, List.map_cons, pol_inj (hp p (List.mem_cons_self ..)) (hq q (List.mem_cons_self ..)) h1,
      polsBytes_inj (fun p h => hp p (List.mem_cons_of_mem _ h)) (fun p h => hq p (List.mem_cons_of_mem _ h)) (by simpa using hl) h2]
theorem rightT_facts {ps : List Pol} (h : rightT ps = true) : ps.length ≤ 16 ∧ ∀ p ∈ ps, RightP p := by
  unfold rightT at h
  rw [Bool.and_eq_true, List.all_eq_true] at h
  exact ⟨of_decide_eq_true h.1, fun p hp => rightP_facts (h.2 p hp)⟩
theorem tableBytes_length (ps : List Pol) : (tableBytes ps).length = 2 + 23 * ps.length := by
  unfold tableBytes
  rw [List.length_append, le_length, polsBytes_length]
/-- Right tables of the same bytes are the same, cell by cell. -/
theorem table_inj {ps qs : List Pol} (hp : rightT ps = true) (hq : rightT qs = true) (h : tableBytes ps = tableBytes qs) : ps.length = qs.length ∧ ps.map Pol.arr = qs.map Pol.arr := by
  have hl : ps.length = qs.length := by
    have := congrArg List.length h
    rw [tableBytes_length, tableBytes_length] at this
    omega
  obtain ⟨_, h2⟩ := List.append_inj (show le ps.length 2 ++ polsBytes ps = le qs.length 2 ++ polsBytes qs from h) (by rw [le_length, le_length])
  exact ⟨hl, polsBytes_inj (rightT_facts hp).2 (rightT_facts hq).2 hl h2⟩
end Go.Proofs.YtbiompjhenkieaaGreat
