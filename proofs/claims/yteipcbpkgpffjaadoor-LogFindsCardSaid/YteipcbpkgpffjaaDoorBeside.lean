/-
  Beside a walk over frames: an append inside a fence; the frames are no more than the bytes; rows. Conditions: those of each theorem.
-/
import Derived.Test.YteipcbpkgpffjaaDoorAll
namespace Go.Proofs.YteipcbpkgpffjaaDoor
open Go.RowKit Go.Shelf
set_option maxRecDepth 100000
attribute [local go_sem] Oper.semAt_some

/-- An append of one element of one cell onto a row that the call owns, inside a fence. -/
theorem wpListIn_append_elem {F : Fence} {n : Nat} {P : Program} {w : World} {ops : Array Oper} {rest : List Oper} {o : Oper} {act : Act} {Q : Exit → Act → World → Prop} (hgd : o.guard = none) (s x : Operand) (t : TypeId)
    (ho : o.op = .call { callee := .builtin .append, args := #[s, x], argTypes := #[t, t] })
    (base : Nat) (e : TypeId) (z : Value) (bytes : Nat) (ht : P.underlying t = some (.slice e)) (hi : (P.info? e).map (fun i => (i.zero, i.size, i.bytes)) = some (some z, 1, bytes)) (hz : z.cells.size = 1)
    (v : Value) (m : Nat) (xs : List Value) (hs : act.eval s = v) (hown : w.ownsRow base e 1 v m xs) (u : Value) (hu : u.oneCell' = true) (ad : Addr) (c : Nat) (hx : act.eval x = .slice (some ad) 1 c) (hc : w.cell? ad = some u)
    (k : Nat) (hk : m + 1 = k) (h63 : k ≤ maxLen) (hbytes : k * bytes ≤ 140737488355328) (hbase : base ≤ w.heap.size)
    (h : ∀ a' c' w', w'.ownsRow base e 1 (.slice a' k c') k (xs ++ [u]) → w.grownBy w' v.ownBlock → (∀ g, (Value.slice a' k c').ownBlock = some g → v.ownBlock = some g ∨ g = w.heap.size) → wpListIn F n P ops Q rest (act.put o.dst (.slice a' k c')) w') :
    wpListIn F n P ops Q (o :: rest) act w := by
  subst hk
  obtain ⟨i, hi0, hz0, hsize, hby⟩ := info_parts hi
  refine wpListIn_plain hgd fun K hK => ?_
  obtain ⟨a', c', w', hr, h2, h3, h4⟩ := run_append_full (P := P) w base t o.type e i z 1 bytes ht hi0 hz0 hsize hby hz (by decide) v m xs hown ad 1 c [u] rfl (fun j y hj => by
    match j, hj with
    | 0, hj =>
      injection hj with hj
      subst hj
      rw [show ad.add 0 = ad from by unfold Addr.add; split <;> simp_all]
      exact hc
    | j + 1, hj => simp at hj) (fun y hy => by rw [List.mem_singleton.1 hy]; exact hu) h63 hbytes hbase
  unfold Oper.wpIn
  refine ⟨?_, ?_⟩
  · simp [Oper.about, ho, resolve, Target.leads, Sem.run_pure]
  · rw [Oper.semAt_plain F _ _ (by rw [ho]; intro c hc; cases hc)]
    unfold execOp
    simp only [ho, resolve, invoke, builtin, Sem.run_bind, Sem.run_pure, Result.andThen_ok, List.map_toArray, List.map_cons, List.map_nil, hs, hx, hr]
    exact hK _ _ (h a' c' w' h2 h3 h4)
/-- The frames are no more than the bytes. -/
theorem come_end {xs : List UInt8} : ∀ i, i ≤ (frames xs).length → ∃ k, Come xs i k := by
  intro i
  induction i with
  | zero => exact fun _ => ⟨0, Come.zero xs⟩
  | succ i ih =>
    intro h
    obtain ⟨k, hk⟩ := ih (by omega)
    cases hf : frameAt (xs.drop k) with
    | none => have := hk.stop hf; omega
    | some x =>
      obtain ⟨_, _, h2⟩ := hk.step hf
      exact ⟨_, h2⟩
theorem frames_count (xs : List UInt8) : 7 * (frames xs).length ≤ xs.length := by
  obtain ⟨k, hk⟩ := come_end (xs := xs) (frames xs).length (Nat.le_refl _)
  have h1 := hk.at'
  rw [List.take_length] at h1
  have h2 := endOf_ge 0 (frames xs)
  have h3 := hk.in'
  omega
theorem RowsOf.lower {w : World} {base base' : Nat} {v : Value} {E : Nat → Prop} {L : List (List UInt8)} (h : RowsOf w base v E L) (hb : base' ≤ base) : RowsOf w base' v E L := by
  obtain ⟨vals, h1, h2⟩ := h
  exact ⟨vals, row_mono h1 hb, h2⟩
end Go.Proofs.YteipcbpkgpffjaaDoor
