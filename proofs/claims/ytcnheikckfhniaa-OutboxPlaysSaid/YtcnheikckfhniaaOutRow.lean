/-
  Rows of messages: what a row reads as; an append of one. Conditions: those of each theorem.
-/
import Derived.Test.YtcnheikckfhniaaOutSort
namespace Go.Proofs.Ytcnheikckfhniaa
open Go.RowKit
set_option maxRecDepth 100000

def mcells (xs : List Msg) : List Value := xs.flatMap fun m => [.int .i64 m.key, .int .i64 m.kind, .int .i64 m.rma, .int .i64 m.value, .int .i64 m.tries, .int .i64 m.due]
theorem mcells_length (xs : List Msg) : (mcells xs).length = xs.length * 6 := by
  induction xs with
  | nil => rfl
  | cons x xs ih => simp only [mcells, List.flatMap_cons, List.length_append, List.length_cons, List.length_nil] at ih ⊢; omega
theorem mcells_append (xs ys : List Msg) : mcells (xs ++ ys) = mcells xs ++ mcells ys := by simp [mcells]
theorem mcells_cons (x : Msg) (xs : List Msg) : mcells (x :: xs) = .int .i64 x.key :: .int .i64 x.kind :: .int .i64 x.rma :: .int .i64 x.value :: .int .i64 x.tries :: .int .i64 x.due :: mcells xs := rfl
theorem mget_cons (x : Msg) (xs : List Msg) (i : Nat) : mget (x :: xs) (i + 1) = mget xs i := rfl
theorem mcells_get : ∀ (xs : List Msg) (i : Nat), i < xs.length → (mcells xs)[i * 6]? = some (.int .i64 (mget xs i).key) ∧ (mcells xs)[i * 6 + 1]? = some (.int .i64 (mget xs i).kind) ∧ (mcells xs)[i * 6 + 2]? = some (.int .i64 (mget xs i).rma) ∧ (mcells xs)[i * 6 + 3]? = some (.int .i64 (mget xs i).value) ∧ (mcells xs)[i * 6 + 4]? = some (.int .i64 (mget xs i).tries) ∧ (mcells xs)[i * 6 + 5]? = some (.int .i64 (mget xs i).due)
  | x :: xs, 0, _ => ⟨rfl, rfl, rfl, rfl, rfl, rfl⟩
  | x :: xs, i + 1, h => by
    have := mcells_get xs i (by simpa using h)
    rw [mcells_cons, show (i + 1) * 6 = i * 6 + 1 + 1 + 1 + 1 + 1 + 1 by omega, mget_cons]
    simp only [List.getElem?_cons_succ]
    exact this
/-- The six cells of a message. -/
structure MsgIn (w : World) (b o : Nat) (m : Msg) : Prop where
  x0 : w.cell? ⟨b, o, none⟩ = some (.int .i64 m.key)
  x1 : w.cell? ⟨b, o + 1, none⟩ = some (.int .i64 m.kind)
  x2 : w.cell? ⟨b, o + 2, none⟩ = some (.int .i64 m.rma)
  x3 : w.cell? ⟨b, o + 3, none⟩ = some (.int .i64 m.value)
  x4 : w.cell? ⟨b, o + 4, none⟩ = some (.int .i64 m.tries)
  x5 : w.cell? ⟨b, o + 5, none⟩ = some (.int .i64 m.due)
theorem MsgIn.upd {S : Nat → Prop} {w w' : World} {b o : Nat} {m : Msg} (h : MsgIn w b o m) (hu : Upd S w w') (hb : b < w.heap.size) (hn : ¬ S b) : MsgIn w' b o m :=
  ⟨(hu.cell (p := ⟨b, o, none⟩) hb hn).trans h.x0, (hu.cell (p := ⟨b, o + 1, none⟩) hb hn).trans h.x1, (hu.cell (p := ⟨b, o + 2, none⟩) hb hn).trans h.x2, (hu.cell (p := ⟨b, o + 3, none⟩) hb hn).trans h.x3, (hu.cell (p := ⟨b, o + 4, none⟩) hb hn).trans h.x4, (hu.cell (p := ⟨b, o + 5, none⟩) hb hn).trans h.x5⟩
/-- A row of messages that is read. -/
def MRow (w : World) (a : Option Addr) (xs : List Msg) : Prop :=
  xs = [] ∨ ∃ b o, a = some ⟨b, o, none⟩ ∧ b < w.heap.size ∧ ∀ i, i < xs.length → MsgIn w b (o + i * 6) (mget xs i)
theorem MRow.upd {S : Nat → Prop} {w w' : World} {a : Option Addr} {xs : List Msg} (h : MRow w a xs) (hu : Upd S w w') (hn : ∀ b o, a = some ⟨b, o, none⟩ → ¬ S b) : MRow w' a xs := by
  rcases h with h | ⟨b, o, h1, h2, h3⟩
  · exact .inl h
  · exact .inr ⟨b, o, h1, Nat.lt_of_lt_of_le h2 hu.size, fun i hi => (h3 i hi).upd hu h2 (hn b o h1)⟩
theorem MRow.below {w w' : World} {a : Option Addr} {xs : List Msg} (h : MRow w a xs) (hb : Below w.heap.size w w') : MRow w' a xs := h.upd (S := fun _ => False) (Upd.below hb) (fun _ _ _ x => x)
theorem MRow.at_ {w : World} {a : Option Addr} {xs : List Msg} (h : MRow w a xs) (h0 : 0 < xs.length) : ∃ b o, a = some ⟨b, o, none⟩ ∧ b < w.heap.size ∧ ∀ i, i < xs.length → MsgIn w b (o + i * 6) (mget xs i) := by
  rcases h with h | h
  · rw [h] at h0; cases h0
  · exact h
theorem mrow_own {w : World} {base n c : Nat} {e : TypeId} {a : Option Addr} {xs : List Msg} (h : w.ownsRow base e 6 (.slice a n c) n (mcells xs)) (hn : xs.length = n) : MRow w a xs := by
  have hx := fun g (e : (Value.slice a n c).ownBlock = some g) => own_in h e
  rcases h.2 with ⟨h2, h3⟩ | ⟨g', cap, cur, h2, h3, h4, h5, h6, h7, h8⟩
  · exact .inl (List.length_eq_zero_iff.1 (by omega))
  · injection h2 with e1 e2 e3
    subst e1 e3
    refine .inr ⟨g', 0, rfl, hx g' rfl, fun i hi => ?_⟩
    obtain ⟨x0, x1, x2, x3, x4, x5⟩ := mcells_get xs i hi
    rw [Nat.zero_add]
    exact ⟨(h.cellAt (i * 6) (by omega)).trans x0, (h.cellAt (i * 6 + 1) (by omega)).trans x1, (h.cellAt (i * 6 + 2) (by omega)).trans x2, (h.cellAt (i * 6 + 3) (by omega)).trans x3, (h.cellAt (i * 6 + 4) (by omega)).trans x4, (h.cellAt (i * 6 + 5) (by omega)).trans x5⟩
theorem msg_box (w : World) (m : Msg) (e : TypeId) : ∀ j u, ([.int .i64 m.key, .int .i64 m.kind, .int .i64 m.rma, .int .i64 m.value, .int .i64 m.tries, .int .i64 m.due] : List Value)[j]? = some u → (w.alloc (.cells #[.int .i64 m.key, .int .i64 m.kind, .int .i64 m.rma, .int .i64 m.value, .int .i64 m.tries, .int .i64 m.due] e)).cell? ((⟨w.heap.size, 0, none⟩ : Addr).add j) = some u := fun j u hj => by
  have := (arr_new w #[.int .i64 m.key, .int .i64 m.kind, .int .i64 m.rma, .int .i64 m.value, .int .i64 m.tries, .int .i64 m.due] e).cells j u (by simpa using hj)
  rw [add_zero_addr]
  simpa using this
theorem msg_ones (m : Msg) : ∀ u ∈ ([.int .i64 m.key, .int .i64 m.kind, .int .i64 m.rma, .int .i64 m.value, .int .i64 m.tries, .int .i64 m.due] : List Value), u.oneCell' = true := by
  intro u hu
  simp only [List.mem_cons, List.not_mem_nil, or_false] at hu
  rcases hu with rfl | rfl | rfl | rfl | rfl | rfl <;> rfl
/-- An append of one message, that was boxed for it. -/
theorem wpList_append_msg {P : Program} {w : World} {ops : Array Oper} {rest : List Oper} {o : Oper} {act : Act} {Q : Exit → Act → World → Prop} (hgd : o.guard = none) (s x : Operand) (t e : TypeId)
    (ho : o.op = .call { callee := .builtin .append, args := #[s, x], argTypes := #[t, t] }) (ht : P.underlying t = some (.slice e)) (hi : (P.info? e).map (fun i => (i.zero, i.size, i.bytes)) = some (some (.agg #[.int .i64 msg0.key, .int .i64 msg0.kind, .int .i64 msg0.rma, .int .i64 msg0.value, .int .i64 msg0.tries, .int .i64 msg0.due]), 6, 48))
    (base n c : Nat) (a : Option Addr) (xs : List Msg) (hs : act.eval s = .slice a n c) (hown : w.ownsRow base e 6 (.slice a n c) n (mcells xs)) (m : Msg) (hx : act.eval x = .slice (some ⟨w.heap.size, 0, none⟩) 1 1)
    (hf : n < 10000) (hbase : base ≤ w.heap.size) (k : Nat) (hk : n + 1 = k) (B : Nat) (w0 : World) (hB : Below B w0 w) (hBb : B ≤ base)
    (h : ∀ a' c' w', Hid (w'.ownsRow base e 6 (.slice a' k c') k (mcells (xs ++ [m]))) → Below B w0 w' → Upd (fun q => (Value.slice a n c).ownBlock = some q) w w' → (∀ q, (Value.slice a' k c').ownBlock = some q → (Value.slice a n c).ownBlock = some q ∨ w.heap.size ≤ q) →
      wpList P ops Q rest (act.put o.dst (.slice a' k c')) w') : wpList P ops Q (o :: rest) act (w.alloc (.cells #[.int .i64 m.key, .int .i64 m.kind, .int .i64 m.rma, .int .i64 m.value, .int .i64 m.tries, .int .i64 m.due] e)) := by
  subst hk
  have hbs : base ≤ (w.alloc (.cells #[.int .i64 m.key, .int .i64 m.kind, .int .i64 m.rma, .int .i64 m.value, .int .i64 m.tries, .int .i64 m.due] e)).heap.size := by simp; omega
  refine wpList_append_full hgd s x t ho base e _ 6 48 ht hi rfl (by decide) (.slice a n c) n (mcells xs) hs (ownsRow_alloc hown _) ⟨w.heap.size, 0, none⟩ 1 1 _ hx rfl (msg_box w m e) (msg_ones m) (by unfold maxLen; omega) (by omega) hbs (fun a' c' w' h1 h2 h3 => ?_)
  refine h a' c' w' ?_ ?_ ?_ ?_
  · show World.ownsRow _ _ _ _ _ _ _
    rw [mcells_append]
    exact h1
  · exact (hB.alloc (Nat.le_trans hBb hbase) _).grown h2 (Nat.le_trans hBb hbs) (fun k hk => Nat.le_trans hBb (own_base hown hk))
  · exact ((Upd.refl _ w).alloc _).grown h2 (fun k hk => .inl hk)
  · intro q hq
    rcases h3 q hq with e | e
    · exact .inl e
    · exact .inr (by rw [e]; simp)
/-- .. where the box's number is written in another way. -/
theorem wpList_append_at {P : Program} {w : World} {ops : Array Oper} {rest : List Oper} {o : Oper} {act : Act} {Q : Exit → Act → World → Prop} (hgd : o.guard = none) (s x : Operand) (t e : TypeId)
    (ho : o.op = .call { callee := .builtin .append, args := #[s, x], argTypes := #[t, t] }) (ht : P.underlying t = some (.slice e)) (hi : (P.info? e).map (fun i => (i.zero, i.size, i.bytes)) = some (some (.agg #[.int .i64 msg0.key, .int .i64 msg0.kind, .int .i64 msg0.rma, .int .i64 msg0.value, .int .i64 msg0.tries, .int .i64 msg0.due]), 6, 48))
    (base n c : Nat) (a : Option Addr) (xs : List Msg) (hs : act.eval s = .slice a n c) (hown : w.ownsRow base e 6 (.slice a n c) n (mcells xs)) (m : Msg) (g : Nat) (hg : w.heap.size = g) (hx : act.eval x = .slice (some ⟨g, 0, none⟩) 1 1)
    (hf : n < 10000) (hbase : base ≤ w.heap.size) (k : Nat) (hk : n + 1 = k)
    (h : ∀ a' c' w', Hid (w'.ownsRow base e 6 (.slice a' k c') k (mcells (xs ++ [m]))) → Upd (fun q => (Value.slice a n c).ownBlock = some q) w w' → (∀ q, (Value.slice a' k c').ownBlock = some q → (Value.slice a n c).ownBlock = some q ∨ w.heap.size ≤ q) →
      wpList P ops Q rest (act.put o.dst (.slice a' k c')) w') : wpList P ops Q (o :: rest) act (w.alloc (.cells #[.int .i64 m.key, .int .i64 m.kind, .int .i64 m.rma, .int .i64 m.value, .int .i64 m.tries, .int .i64 m.due] e)) := by
  subst hg
  exact wpList_append_msg hgd s x t e ho ht hi base n c a xs hs hown m hx hf hbase k hk base w (Below.refl _ _) (Nat.le_refl _) (fun a' c' w' h1 _ h3 h4 => h a' c' w' h1 h3 h4)
theorem info_msgz : (Try.prog.info? 31).map (fun i => (i.zero, i.size, i.bytes)) = some (some (.agg #[.int .i64 msg0.key, .int .i64 msg0.kind, .int .i64 msg0.rma, .int .i64 msg0.value, .int .i64 msg0.tries, .int .i64 msg0.due]), 6, 48) := by kernel_rfl
theorem info_refz : (Try.prog.info? 30).map (fun i => (i.zero, i.size, i.bytes)) = some (some (.agg #[.int .i64 msg0.key, .int .i64 msg0.kind, .int .i64 msg0.rma, .int .i64 msg0.value, .int .i64 msg0.tries, .int .i64 msg0.due]), 6, 48) := by kernel_rfl
theorem mtake_at {ws : List Msg} {k : Nat} (hk : k < ws.length) : ws.take (k + 1) = ws.take k ++ [mget ws k] := by
  rw [mget_eq hk]
  exact (List.take_append_getElem hk).symm
end Go.Proofs.Ytcnheikckfhniaa
