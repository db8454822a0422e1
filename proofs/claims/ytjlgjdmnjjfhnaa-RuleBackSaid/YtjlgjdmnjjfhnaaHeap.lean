/-
  Frames: which blocks a call may have turned. Program-independent. No conditions but those of each theorem.
-/
import Derived.Test.YtjlgjdmnjjfhnaaRd
import Derived.Deep.Draws
import Derived.Lib.Hide
namespace Go.Proofs.Ytjlgjdmnjjfhnaa
open Go.RowKit
set_option maxRecDepth 100000

/-- Nothing has turned but the blocks of S, and what is new. -/
structure Upd (S : Nat → Prop) (w w' : World) : Prop where
  os : w'.os = w.os
  tape : w'.tape = w.tape
  output : w'.output = w.output
  size : w.heap.size ≤ w'.heap.size
  block : ∀ k, k < w.heap.size → ¬ S k → w'.heap[k]? = w.heap[k]?

section
variable {S S' : Nat → Prop} {a w w' w1 w2 : World}
theorem Upd.refl (S : Nat → Prop) (w : World) : Upd S w w := ⟨rfl, rfl, rfl, Nat.le_refl _, fun _ _ _ => rfl⟩
theorem Upd.trans (h : Upd S w w1) (k : Upd S' w1 w2) (hs : ∀ k, k < w.heap.size → S' k → S k) : Upd S w w2 :=
  ⟨k.os.trans h.os, k.tape.trans h.tape, k.output.trans h.output, Nat.le_trans h.size k.size, fun i hi hn => (k.block i (Nat.lt_of_lt_of_le hi h.size) (fun x => hn (hs i hi x))).trans (h.block i hi hn)⟩
theorem Upd.mono (h : Upd S w w') (hs : ∀ k, k < w.heap.size → S k → S' k) : Upd S' w w' :=
  ⟨h.os, h.tape, h.output, h.size, fun k hk hn => h.block k hk (fun x => hn (hs k hk x))⟩
theorem Upd.drew (h : Upd S a w) : Upd S a w.drew := ⟨h.os, h.tape, h.output, h.size, h.block⟩
theorem Upd.drewN (h : Upd S a w) (n : Nat) : Upd S a (w.drewN n) := ⟨h.os, h.tape, h.output, h.size, h.block⟩
theorem Upd.alloc (h : Upd S a w) (o : Obj) : Upd S a (w.alloc o) :=
  ⟨h.os, h.tape, h.output, Nat.le_trans h.size (by simp), fun k hk hn => (Below.heap_alloc w o k (Nat.lt_of_lt_of_le hk h.size)).trans (h.block k hk hn)⟩
theorem Upd.setCell (h : Upd S a w) {p : Addr} (hp : S p.block ∨ a.heap.size ≤ p.block) (u : Value) : Upd S a (w.setCell p u) :=
  ⟨h.os, h.tape, h.output, by simpa [World.setCell] using h.size, fun k hk hn => (Below.heap_setCell w p u k (by
    rintro rfl
    rcases hp with hp | hp
    · exact hn hp
    · omega)).trans (h.block k hk hn)⟩
theorem Upd.below (h : Below a.heap.size a w) : Upd S a w := ⟨h.os, h.tape, h.output, h.size, fun k hk _ => h.block k hk⟩
theorem Upd.toBelow {B : Nat} (h : Upd S w w') (hB : B ≤ w.heap.size) (hs : ∀ k, k < B → ¬ S k) : Below B w w' :=
  ⟨h.os, h.tape, h.output, h.size, fun k hk => h.block k (Nat.lt_of_lt_of_le hk hB) (hs k hk)⟩
theorem Upd.grown {row : Option Nat} (h : Upd S a w) (hg : w.grownBy w' row) (hr : ∀ k, row = some k → S k ∨ a.heap.size ≤ k) : Upd S a w' :=
  ⟨hg.os.trans h.os, hg.tape.trans h.tape, hg.output.trans h.output, Nat.le_trans h.size hg.size, fun k hk hn => (hg.block k (Nat.lt_of_lt_of_le hk h.size) (fun e => by
    rcases hr k e.symm with x | x
    · exact hn x
    · omega)).trans (h.block k hk hn)⟩
theorem Upd.cell (h : Upd S w w') {p : Addr} (hp : p.block < w.heap.size) (hn : ¬ S p.block) : w'.cell? p = w.cell? p := World.cell?_of_block (w := w) (h.block p.block hp hn)
theorem Upd.frozen (h : Upd S w w') {p : Addr} (hp : p.block < w.heap.size) (hn : ¬ S p.block) : w'.frozen? p = w.frozen? p := World.frozen?_of_block (w := w) (h.block p.block hp hn)
end

theorem ownsRow_upd {S : Nat → Prop} {w w' : World} {base : Nat} {e : TypeId} {size : Nat} {v : Value} {n : Nat} {xs : List Value} (h : w.ownsRow base e size v n xs) (hu : Upd S w w')
    (hn : ∀ g, v.ownBlock = some g → ¬ S g) : w'.ownsRow base e size v n xs := by
  obtain ⟨h1, h2⟩ := h
  refine ⟨h1, ?_⟩
  rcases h2 with h2 | ⟨g, cap, cur, rfl, hg, hh, r⟩
  · exact .inl h2
  · exact .inr ⟨g, cap, cur, rfl, hg, by rw [hu.block g (Array.getElem?_eq_some_iff.1 hh).1 (hn g rfl)]; exact hh, r⟩

theorem IsBytes.upd {S : Nat → Prop} {w w' : World} {a : Option Addr} {xs : List UInt8} (h : IsBytes w a xs) (hu : Upd S w w') (hn : xs ≠ [] → ∀ x, a = some x → ¬ S x.block) : IsBytes w' a xs := by
  by_cases h0 : xs = []
  · exact .inl h0
  rcases h with h | ⟨b, off, rfl, hb, hc⟩
  · exact .inl h
  · exact .inr ⟨b, off, rfl, Nat.lt_of_lt_of_le hb hu.size, fun i hi => (hu.cell (p := ⟨b, off + i, none⟩) hb (hn h0 ⟨b, off, none⟩ rfl)).trans (hc i hi)⟩

theorem IsBytes.lt {w : World} {a : Option Addr} {xs : List UInt8} (h : IsBytes w a xs) (h0 : xs ≠ []) : ∀ x, a = some x → x.block < w.heap.size := by
  rcases h with h | ⟨b, off, rfl, hb, _⟩
  · exact (h0 h).elim
  · rintro x ⟨rfl⟩; exact hb

def bval (x : UInt8) : Value := .int .u8 (x.toNat : Int)

theorem setCell_heap_at {w : World} {p o : Nat} {u : Value} {cur : Array Value} {t : TypeId} {fr : Nat × Nat} (h : w.heap[p]? = some (.cells cur t fr)) :
    (w.setCell ⟨p, o, none⟩ u).heap[p]? = some (.cells (cur.setIfInBounds o u) t fr) := by
  simp [World.setCell, Array.getElem?_modify, h]
/-- The blocks of S, and those that are new in w'. -/
def More (S : Nat → Prop) (w w' : World) : Nat → Prop := fun k => S k ∨ (w.heap.size ≤ k ∧ k < w'.heap.size)

theorem setCell_size (w : World) (a : Addr) (u : Value) : (w.setCell a u).heap.size = w.heap.size := by simp [World.setCell]

theorem cell_other {w : World} {p o o' : Nat} {u : Value} (h : o' ≠ o) : (w.setCell ⟨p, o, none⟩ u).cell? ⟨p, o', none⟩ = w.cell? ⟨p, o', none⟩ :=
  World.cell?_setCell_other _ _ _ _ (by intro e; injection e with _ e; exact h e.symm)
theorem cell_same {w : World} {p o : Nat} {u v : Value} (h : w.cell? ⟨p, o, none⟩ = some v) : (w.setCell ⟨p, o, none⟩ u).cell? ⟨p, o, none⟩ = some u :=
  World.cell?_setCell_same _ _ _ h

theorem upd_set {w : World} {p : Nat} (o : Nat) (u : Value) : Upd (fun k => k = p) w (w.setCell ⟨p, o, none⟩ u) := (Upd.refl (fun k => k = p) w).setCell (p := ⟨p, o, none⟩) (.inl rfl) u
theorem below_upd {w w' : World} (S : Nat → Prop) (hb : Below w.heap.size w w') : Upd S w w' := Upd.below hb
theorem More_le {S : Nat → Prop} {w w' w2 : World} (h : w'.heap.size ≤ w2.heap.size) : ∀ k, More S w w' k → S k ∨ (w.heap.size ≤ k ∧ k < w2.heap.size) :=
  fun _ hk => hk.elim .inl (fun x => .inr ⟨x.1, Nat.lt_of_lt_of_le x.2 h⟩)
end Go.Proofs.Ytjlgjdmnjjfhnaa
