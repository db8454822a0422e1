/-
  At an operation of a region that draws its order: a call of a function, an append of one element of one cell. Program-independent. No conditions but those of each theorem.
-/
import Derived.Test.YteipcbpkgpffjaaDoorIter
import Derived.Test.YteipcbpkgpffjaaDoorOps
import Derived.Deep.RegionLaw
namespace Go.Proofs.YteipcbpkgpffjaaDoor
open Go.RowKit
set_option maxRecDepth 100000

/-- A call of a function, by what it answers. -/
theorem step_call {P : Program} {w : World} {ops : Array Oper} {o : Oper} {act : Act} {K : Act → World → Prop} {Q : Exit → Act → World → Prop} {E : Prop} (hgd : o.guard = none) (f : FuncId) (xs : Array Operand) (ts : Array TypeId)
    (ho : o.op = .call { callee := .value (.func f), args := xs, argTypes := ts }) (eg : ∀ args w, (callFunc f args).run P w = .ok (.enter f args) w) (args : Array Value) (hx : xs.map act.eval = args)
    {R : Ending → World → Prop} (hc : Calls P f args w R) (h : ∀ e w', R e w' → ∃ v, e = .returned v ∧ K (act.put o.dst v) w') :
    if Region.wanted o (yielded ops act.tmps) = true then Oper.wp P o act w K Q else E := by
  rw [if_pos (by simp [Region.wanted, hgd])]
  unfold Oper.wp execOp
  have hrun : (do let d ← resolve act.eval { callee := .value (.func f), args := xs, argTypes := ts } o.type; invoke d.target d.args).run P w = .ok (.enter f args) w := by
    simp [resolve, invoke, hx, eg, go_sem]
  simp only [ho]
  rw [hrun]
  simp only [Oper.upon]
  refine hc.mono ?_
  intro e w' hr
  obtain ⟨v, rfl, hk⟩ := h e w' hr
  exact hk

/-- An append of one element of one cell at an operation of a region that draws its order. -/
theorem step_append_elem {P : Program} {w : World} {ops : Array Oper} {o : Oper} {act : Act} {K : Act → World → Prop} {Q : Exit → Act → World → Prop} {E : Prop} (hgd : o.guard = none) (s x : Operand) (t : TypeId)
    (ho : o.op = .call { callee := .builtin .append, args := #[s, x], argTypes := #[t, t] })
    (base : Nat) (e : TypeId) (z : Value) (bytes : Nat) (ht : P.underlying t = some (.slice e)) (hi : (P.info? e).map (fun i => (i.zero, i.size, i.bytes)) = some (some z, 1, bytes)) (hz : z.cells.size = 1)
    (v : Value) (n : Nat) (xs : List Value) (hs : act.eval s = v) (hown : w.ownsRow base e 1 v n xs) (u : Value) (hu : u.oneCell' = true) (ad : Addr) (c : Nat) (hx : act.eval x = .slice (some ad) 1 c) (hc : w.cell? ad = some u)
    (k : Nat) (hk : n + 1 = k) (h63 : k ≤ maxLen) (hbytes : k * bytes ≤ 140737488355328) (hbase : base ≤ w.heap.size)
    (h : ∀ a' c' w', w'.ownsRow base e 1 (.slice a' k c') k (xs ++ [u]) → w.grownBy w' v.ownBlock → (∀ g, (Value.slice a' k c').ownBlock = some g → v.ownBlock = some g ∨ g = w.heap.size) → K (act.put o.dst (.slice a' k c')) w') :
    if Region.wanted o (yielded ops act.tmps) = true then Oper.wp P o act w K Q else E := by
  rw [if_pos (by simp [Region.wanted, hgd])]
  subst hk
  obtain ⟨i, hi0, hz0, hsize, hby⟩ := info_parts hi
  obtain ⟨a', c', w', hr, h2, h3, h4⟩ := run_append_full (P := P) w base t o.type e i z 1 bytes ht hi0 hz0 hsize hby hz (by decide) v n xs hown ad 1 c [u] rfl (fun j y hj => by
    match j, hj with
    | 0, hj =>
      injection hj with hj
      subst hj
      rw [show ad.add 0 = ad from by unfold Addr.add; split <;> simp_all]
      exact hc
    | j + 1, hj => simp at hj) (fun y hy => by rw [List.mem_singleton.1 hy]; exact hu) h63 hbytes hbase
  unfold Oper.wp execOp
  simp only [ho, resolve, invoke, builtin, Sem.run_bind, Sem.run_pure, Result.andThen_ok, List.map_toArray, List.map_cons, List.map_nil, hs, hx, hr]
  exact h a' c' w' h2 h3 h4
end Go.Proofs.YteipcbpkgpffjaaDoor
