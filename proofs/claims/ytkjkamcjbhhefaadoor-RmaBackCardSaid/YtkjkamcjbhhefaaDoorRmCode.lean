/-
  A return put and told as bytes. Conditions: those of each theorem.
-/
import Derived.Test.YtkjkamcjbhhefaaDoorRmPut
import Derived.Test.YtkjkamcjbhhefaaDoorRmTake
namespace Go.Proofs.YtkjkamcjbhhefaaDoor
open Go.RowKit
set_option maxRecDepth 100000

/-- A new Out. -/
theorem out_made (w : World) : OutAt (w.alloc (.cells #[.slice none 0 0, .bool false] 45)) w.heap.size (fun k => k = w.heap.size) [] false := by
  refine ⟨(fun x => by cases x), rfl, fun k hk => by subst hk; simp, ⟨_, heap_alloc_new w _, rfl⟩, ⟨none, 0, by rw [cell_of_row _ _ 0 _ _ _ (heap_alloc_new w _)]; rfl, World.ownsRow_nil _ _ _ _, fun g hg => by simp [Value.ownBlock] at hg⟩, by rw [cell_of_row _ _ 1 _ _ _ (heap_alloc_new w _)]; rfl⟩
/-- What End answers behind a Put. -/
theorem out_end {w W : World} {p n : Nat} {S : Nat → Prop} {bs : List UInt8} {Q : Prop} (h : OutRun w p S [] Q bs n W) (hn : n ≤ 1000000) :
    Calls Tryd.prog 24 #[.pointer (some ⟨p, 0, none⟩)] W fun e w' => (∃ a m c er, e = .returned (.tuple #[.slice a m c, .int .i64 er]) ∧ (Q → er = 0 ∧ bs.length = m ∧ IsBytes w' a bs ∧ (a = none → c = 0) ∧ m ≤ c ∧ c ≤ maxLen)) ∧ Below W.heap.size W w' := by
  obtain ⟨S', zs, bad, h1, h2, h3, h4, h5⟩ := h
  refine (end_in h1 (by simp at h4; omega)).mono ?_
  rintro e w' ⟨⟨a, c, rfl, hr⟩, hb⟩
  obtain ⟨g1, -, g3, g4, g5⟩ := bytes_of_row hr
  refine ⟨⟨a, zs.length, c, endE bad, rfl, fun q => ?_⟩, hb⟩
  obtain ⟨q1, q2⟩ := h5 q
  rw [List.nil_append] at q2
  subst q1 q2
  exact ⟨rfl, rfl, g1, g5, g3, g4⟩
theorem NewLi.under {w : World} {B : Nat} {a : Option Addr} {n c : Nat} {xs : List Int} (h : NewLi w B a n c xs) (h0 : 0 < n) (b o : Nat) (e : a = some ⟨b, o, none⟩) : b < w.heap.size := by
  obtain ⟨g, _, e1, _, h2, _⟩ := h.own h0
  rw [e] at e1
  injection e1 with e1
  injection e1 with e1
  have := (Array.getElem?_eq_some_iff.1 h2).1
  omega
end Go.Proofs.YtkjkamcjbhhefaaDoor
