/-
  An append of bytes onto a row of the call's own, as its callers want it. Program-independent but for a type's number. No conditions but those of each theorem.
-/
import Derived.Test.YtaogiocjgafohaaNumbers
namespace Go.Proofs.Ytaogiocjgafohaa
open Go.RowKit
set_option maxRecDepth 100000

theorem own_empty (w : World) : (w.alloc (.cells #[] 5)).ownsRow w.heap.size 5 1 (.slice (some ⟨w.heap.size, 0, none⟩) 0 0) 0 (([] : List UInt8).map bval) :=
  World.ownsRow_made w #[] 0 (Nat.le_refl _) (Nat.zero_le _) rfl
theorem own_byte (w : World) (x : UInt8) : (w.alloc (.cells #[.int .u8 (x.toNat : Int)] 5)).ownsRow w.heap.size 5 1 (.slice (some ⟨w.heap.size, 0, none⟩) 1 1) 1 ([x].map bval) := by
  refine ⟨rfl, .inr ⟨w.heap.size, 1, #[.int .u8 (x.toNat : Int)], rfl, Nat.le_refl _, heap_alloc_new w _, Nat.le_refl _, by decide, rfl, rfl⟩⟩

theorem wpList_append_own1 {P : Program} {w : World} {ops : Array Oper} {rest : List Oper} {o : Oper} {a : Act} {Q : Exit → Act → World → Prop} (hgd : o.guard = none) (s x : Operand) (t : TypeId)
    (ho : o.op = .call { callee := .builtin .append, args := #[s, x], argTypes := #[t, t] })
    (base : Nat) (e : TypeId) (ht : P.underlying t = some (.slice e)) (hi : (P.info? e).map (fun i => (i.zero, i.size, i.bytes)) = some (some (.int .u8 0), 1, 1))
    (v : Value) (n : Nat) (xs : List UInt8) (hs : a.eval s = v) (hown : w.ownsRow base e 1 v n (xs.map bval))
    (ad : Option Addr) (ys : List UInt8) (m : Nat) (hm : ys.length = m) (c : Nat) (hx : a.eval x = .slice ad m c) (hy : IsBytes w ad ys) (hnc : ad = none → c = 0) (k : Nat) (hk : n + m = k) (hb : k ≤ 140737488355328) (hbase : base ≤ w.heap.size)
    (h : ∀ a' c' w', w'.ownsRow base e 1 (.slice a' k c') k ((xs ++ ys).map bval) → Below base w w' → (∀ g, (Value.slice a' k c').ownBlock = some g → v.ownBlock = some g ∨ w.heap.size ≤ g) → Upd (fun g => v.ownBlock = some g) w w' →
      wpList P ops Q rest (a.put o.dst (.slice a' k c')) w') :
    wpList P ops Q (o :: rest) a w := by
  subst hk
  refine wpList_append_bytes hgd s x t ho base e ht hi v n xs hs hown ad ys m hm c hx hy hnc hb hbase ?_
  intro a' c' w' h1 h2 h3
  exact h a' c' w' h1 ((Below.refl base w).grown h2 hbase (fun k hk => own_ge hown hk)) (fun g hg => (h3 g hg).imp id (fun e => by omega)) ((Upd.refl _ _).grown h2 (fun k hk => .inl hk))

end Go.Proofs.Ytaogiocjgafohaa
