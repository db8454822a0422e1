/-
  An append of one element of one cell onto a row that the call owns. Program-independent. No conditions but those of each theorem.
-/
import Derived.Test.YtadaaoljpeojcaaOps
namespace Go.Proofs.Ytadaaoljpeojcaa
open Go.RowKit
set_option maxRecDepth 100000

theorem own_base {w : World} {base : Nat} {e : TypeId} {size : Nat} {v : Value} {n : Nat} {xs : List Value} (h : w.ownsRow base e size v n xs) {g : Nat} (hg : v.ownBlock = some g) : base ≤ g := by
  rcases h.2 with ⟨hv, _⟩ | ⟨g', cap, cur, hv, hb, _⟩
  · subst hv; cases hg
  · subst hv
    obtain rfl : g' = g := by simpa [Value.ownBlock] using hg
    exact hb
theorem own_in {w : World} {base : Nat} {e : TypeId} {size : Nat} {v : Value} {n : Nat} {xs : List Value} (h : w.ownsRow base e size v n xs) {g : Nat} (hg : v.ownBlock = some g) : g < w.heap.size := by
  rcases h.2 with ⟨hv, _⟩ | ⟨g', cap, cur, hv, _, hh, _⟩
  · subst hv; cases hg
  · subst hv
    obtain rfl : g' = g := by simpa [Value.ownBlock] using hg
    exact (Array.getElem?_eq_some_iff.1 hh).1
theorem ownsRow_alloc {w : World} {base : Nat} {e : TypeId} {size : Nat} {v : Value} {n : Nat} {xs : List Value} (h : w.ownsRow base e size v n xs) (o : Obj) : (w.alloc o).ownsRow base e size v n xs :=
  ownsRow_upd (S := fun _ => False) h ((Upd.refl _ _).alloc _) (fun _ _ h => h)

theorem wpList_append_elem {P : Program} {w : World} {ops : Array Oper} {rest : List Oper} {o : Oper} {act : Act} {Q : Exit → Act → World → Prop} (hgd : o.guard = none) (s x : Operand) (t : TypeId)
    (ho : o.op = .call { callee := .builtin .append, args := #[s, x], argTypes := #[t, t] })
    (base : Nat) (e : TypeId) (z : Value) (bytes : Nat) (ht : P.underlying t = some (.slice e)) (hi : (P.info? e).map (fun i => (i.zero, i.size, i.bytes)) = some (some z, 1, bytes)) (hz : z.cells.size = 1)
    (v : Value) (m : Nat) (xs : List Value) (hs : act.eval s = v) (hown : w.ownsRow base e 1 v m xs) (u : Value) (hu : u.oneCell' = true) (ad : Addr) (c : Nat) (hx : act.eval x = .slice (some ad) 1 c) (hc : w.cell? ad = some u)
    (k : Nat) (hk : m + 1 = k) (h63 : k ≤ maxLen) (hbytes : k * bytes ≤ 140737488355328) (hbase : base ≤ w.heap.size) (B : Nat) (w0 : World) (hB : Below B w0 w) (hBb : B ≤ base)
    (h : ∀ a' c' w', Hid (w'.ownsRow base e 1 (.slice a' k c') k (xs ++ [u])) → Below B w0 w' → Upd (fun g => v.ownBlock = some g) w w' → (∀ g, (Value.slice a' k c').ownBlock = some g → v.ownBlock = some g ∨ g = w.heap.size) →
      wpList P ops Q rest (act.put o.dst (.slice a' k c')) w') : wpList P ops Q (o :: rest) act w := by
  subst hk
  refine wpList_append_full hgd s x t ho base e z 1 bytes ht hi hz (by decide) v m xs hs hown ad 1 c [u] hx rfl (fun j y hj => ?_) (fun y hy => by rw [List.mem_singleton.1 hy]; exact hu) h63 hbytes hbase (fun a' c' w' h1 h2 h3 => ?_)
  · match j, hj with
    | 0, hj =>
      injection hj with hj
      subst hj
      rw [show ad.add 0 = ad from by unfold Addr.add; split <;> simp_all]
      exact hc
    | j + 1, hj => simp at hj
  · exact h a' c' w' h1 (hB.grown h2 (Nat.le_trans hBb hbase) (fun k hk => Nat.le_trans hBb (own_base hown hk))) ((Upd.refl _ _).grown h2 (fun k hk => .inl hk)) h3
end Go.Proofs.Ytadaaoljpeojcaa
