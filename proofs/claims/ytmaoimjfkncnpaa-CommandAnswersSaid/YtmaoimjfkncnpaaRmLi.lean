/-
  Lists of ints as slices: in new memory, appended to an empty one; a struct stored into the block made last; the library's Clone of ints. Conditions: those of each theorem.
-/
import Derived.Test.YtmaoimjfkncnpaaRowX
import Derived.Deep.WholeRow
import Derived.ArgAppend
namespace Go.Proofs.Ytmaoimjfkncnpaa
open Go.RowKit
set_option maxRecDepth 100000

theorem wpList_store_new {P : Program} {ops : Array Oper} {rest : List Oper} {op : Oper} {a : Act} {W : World} {Q : Exit → Act → World → Prop} (hgd : op.guard = none) (ty : TypeId) (x y : Operand) (ho : op.op = .store ty x y)
    (c cells : Array Value) (hx : a.eval x = .pointer (some ⟨W.heap.size, 0, none⟩)) (hy : a.eval y = .agg cells) (hi : (P.info? ty).map (·.size) = some cells.size) (hc : c.size = cells.size) (h1 : cells.all (·.oneCell') = true)
    (h : wpList P ops Q rest (a.put op.dst undef) (W.alloc (.cells cells ty))) : wpList P ops Q (op :: rest) a (W.alloc (.cells c ty)) :=
  wpList_plain hgd fun _ hK => by
    unfold Oper.wp execOp
    simp only [ho, hx, hy, Sem.run_bind, run_storeAt_new W ty c cells hi hc h1, Result.andThen_ok, Sem.run_pure]
    exact hK _ _ h

/-- A list of ints as a slice. -/
structure LiAt (w : World) (a : Option Addr) (n c : Nat) (xs : List Int) : Prop where
  len : xs.length = n
  cap : n ≤ c
  most : c ≤ maxLen
  nil : a = none → c = 0
  at' : IsInts w a xs
theorem IsInts.upd {S : Nat → Prop} {w w' : World} {a : Option Addr} {xs : List Int} (h : IsInts w a xs) (hu : Upd S w w') (hn : ∀ b o, a = some ⟨b, o, none⟩ → b < w.heap.size → ¬ S b) : IsInts w' a xs := by
  rcases h with rfl | ⟨b, off, rfl, hlt, hc⟩
  · exact .inl rfl
  · exact .inr ⟨b, off, rfl, Nat.lt_of_lt_of_le hlt hu.size, fun i h => by rw [hu.cell (p := ⟨b, off + i, none⟩) hlt (hn b off rfl hlt)]; exact hc i h⟩
theorem LiAt.below {w w' : World} {a : Option Addr} {n c : Nat} {xs : List Int} (h : LiAt w a n c xs) (hb : Below w.heap.size w w') : LiAt w' a n c xs := ⟨h.len, h.cap, h.most, h.nil, h.at'.below hb⟩
theorem LiAt.upd {S : Nat → Prop} {w w' : World} {a : Option Addr} {n c : Nat} {xs : List Int} (h : LiAt w a n c xs) (hu : Upd S w w') (hn : ∀ b o, a = some ⟨b, o, none⟩ → b < w.heap.size → ¬ S b) : LiAt w' a n c xs := ⟨h.len, h.cap, h.most, h.nil, h.at'.upd hu hn⟩
theorem liAt0 (w : World) : LiAt w none 0 0 [] := ⟨rfl, Nat.le_refl _, Nat.zero_le _, fun _ => rfl, .inl rfl⟩

/-- A list in a block of its own, at or above B. -/
structure NewLi (w : World) (B : Nat) (a : Option Addr) (n c : Nat) (xs : List Int) : Prop where
  len : xs.length = n
  cap : n ≤ c
  most : c ≤ maxLen
  nil : a = none → c = 0
  own : 0 < n → ∃ g cur, a = some ⟨g, 0, none⟩ ∧ B ≤ g ∧ w.heap[g]? = some (.cells cur 3 (0, 0)) ∧ ∀ i (h : i < xs.length), cur[i]? = some (.int .i64 xs[i])
theorem NewLi.li {w : World} {B : Nat} {a : Option Addr} {n c : Nat} {xs : List Int} (h : NewLi w B a n c xs) : LiAt w a n c xs := by
  refine ⟨h.len, h.cap, h.most, h.nil, ?_⟩
  by_cases h0 : 0 < n
  · obtain ⟨g, cur, rfl, -, h3, h4⟩ := h.own h0
    refine .inr ⟨g, 0, rfl, (Array.getElem?_eq_some_iff.1 h3).1, fun i hi => ?_⟩
    rw [Nat.zero_add, cell_of_row w g i cur _ _ h3]
    exact h4 i hi
  · exact .inl (List.length_eq_zero_iff.1 (by have := h.len; omega))
theorem NewLi.upd {S : Nat → Prop} {w w' : World} {B : Nat} {a : Option Addr} {n c : Nat} {xs : List Int} (h : NewLi w B a n c xs) (hu : Upd S w w') (hn : ∀ g, B ≤ g → g < w.heap.size → ¬ S g) : NewLi w' B a n c xs := by
  refine ⟨h.len, h.cap, h.most, h.nil, fun h0 => ?_⟩
  obtain ⟨g, cur, h1, h2, h3, h4⟩ := h.own h0
  have hg := (Array.getElem?_eq_some_iff.1 h3).1
  exact ⟨g, cur, h1, h2, (hu.block g hg (hn g h2 hg)).trans h3, h4⟩
theorem NewLi.below {w w' : World} {B : Nat} {a : Option Addr} {n c : Nat} {xs : List Int} (h : NewLi w B a n c xs) (hb : Below w.heap.size w w') : NewLi w' B a n c xs := h.upd (S := fun _ => False) (Upd.below hb) (fun _ _ _ x => x)
theorem NewLi.lower {w : World} {B B' : Nat} {a : Option Addr} {n c : Nat} {xs : List Int} (h : NewLi w B a n c xs) (hB : B' ≤ B) : NewLi w B' a n c xs :=
  ⟨h.len, h.cap, h.most, h.nil, fun h0 => by obtain ⟨g, cur, h1, h2, h3⟩ := h.own h0; exact ⟨g, cur, h1, Nat.le_trans hB h2, h3⟩⟩

theorem int_info : (Try.prog.info? 3).map (fun i => (i.zero, i.size, i.bytes)) = some (some (.int .i64 0), 1, 8) := by kernel_rfl
theorem drew_alloc_below (w : World) (o : Obj) : Below w.heap.size w (w.drew.alloc o) := by
  have h : Below w.heap.size w w.drew := ⟨rfl, rfl, rfl, Nat.le_refl _, fun _ _ => rfl⟩
  exact h.alloc (Nat.le_refl _) _
/-- An append to a slice that has nothing, and no room. -/
theorem run_append_zero {w0 w : World} (ty : TypeId) (b0 o0 : Nat) (a : Option Addr) (m c : Nat) (xs : List Int) (hm : xs.length = m) (hin : IsInts w0 a xs) (hnc : a = none → c = 0) (hbig : m ≤ 1000000) (hb : Below w0.heap.size w0 w) :
    ∃ a' c' w', (Builtin.append_ #[22, 22] ty #[.slice (some ⟨b0, o0, none⟩) 0 0, .slice a m c]).run Try.prog w = .ok (.slice a' m c') w' ∧ NewLi w' w0.heap.size a' m c' xs ∧ Below w0.heap.size w0 w' ∧ Below w.heap.size w w' := by
  obtain ⟨i, hi0, hz, hsize, hby⟩ := info_parts int_info
  by_cases h0 : m = 0
  · subst h0
    obtain rfl := List.length_eq_zero_iff.1 hm
    refine ⟨some ⟨b0, o0, none⟩, 0, w, ?_, ⟨rfl, Nat.le_refl _, Nat.zero_le _, fun _ => rfl, fun x => absurd x (Nat.lt_irrefl 0)⟩, hb, Below.refl _ _⟩
    cases a with
    | none =>
      obtain rfl := hnc rfl
      simp [Builtin.append_, run_underlying Try.underlying22, sizeOf, typeInfo, hi0, Builtin.lenOf, run_firstCells_none, storeCells]
    | some ad =>
      have := run_append_room_cells (P := Try.prog) (w := w) 22 ty 3 i Try.underlying22 hi0 b0 o0 0 0 ad 0 c [] (by simp) (fun j u hu => by simp at hu) (fun u hu => by simp at hu) (Nat.le_refl _) (fun j hj => by simp at hj) (fun j hj => by simp at hj)
      simpa [World.setCells] using this
  · have h1 : 0 < m := by omega
    rcases hin with rfl | ⟨b, off, rfl, hlt, hc⟩
    · simp at hm; omega
    · have hnews : ∀ j u, (xs.map fun x => Value.int .i64 x)[j]? = some u → w.cell? ((⟨b, off, none⟩ : Addr).add j) = some u := by
        intro j u hu
        rw [List.getElem?_map] at hu
        have hj : j < xs.length := by
          apply Classical.byContradiction
          intro hn
          rw [List.getElem?_eq_none (by omega)] at hu
          cases hu
        rw [List.getElem?_eq_getElem hj] at hu
        injection hu with hu
        subst hu
        have e : (⟨b, off, none⟩ : Addr).add j = ⟨b, off + j, none⟩ := by unfold Addr.add; split <;> simp_all
        rw [e]
        exact (hb.cell (p := ⟨b, off + j, none⟩) hlt).trans (hc j hj)
      have hbytes : (0 + m) * i.bytes ≤ 140737488355328 := by rw [hby]; omega
      have hr := run_append_grow (P := Try.prog) w 22 ty 3 i (.int .i64 0) Try.underlying22 hi0 hz ⟨b0, o0, none⟩ 0 0 [] (by simp) (fun j v hv => by simp at hv) ⟨b, off, none⟩ m c (xs.map fun x => Value.int .i64 x) (by rw [List.length_map, hm, hsize, Nat.mul_one]) hnews (by omega) (by omega) (growslice_fits (by omega) hbytes)
      rw [Nat.zero_add] at hr
      have hge := grownCap_ge w m 0 3
      have hcm := grownCap_le_maxLen w m 0 3 (by unfold maxLen; omega)
      refine ⟨_, _, _, hr, ⟨hm, hge, hcm, (fun x => by cases x), fun _ => ⟨w.heap.size, _, rfl, hb.size, heap_alloc_new w.drew _, fun k hk => ?_⟩⟩, hb.trans ((drew_alloc_below w _).mono hb.size), drew_alloc_below w _⟩
      simp [Array.getElem?_append, hk]

/-- At an operation of a region that draws its order. -/
theorem step_append_zero {w0 w : World} {ops : Array Oper} {o : Oper} {act : Act} {K : Act → World → Prop} {Q : Exit → Act → World → Prop} {E : Prop} (hgd : o.guard = none) (s x : Operand)
    (ho : o.op = .call { callee := .builtin .append, args := #[s, x], argTypes := #[22, 22] })
    (hs : ∃ b0 o0, act.eval s = .slice (some ⟨b0, o0, none⟩) 0 0) (a : Option Addr) (m c : Nat) (hx : act.eval x = .slice a m c) (xs : List Int) (hm : xs.length = m) (hin : IsInts w0 a xs) (hnc : a = none → c = 0) (hbig : m ≤ 1000000) (hb : Below w0.heap.size w0 w)
    (h : ∀ a' c' w', NewLi w' w0.heap.size a' m c' xs → Below w0.heap.size w0 w' → Below w.heap.size w w' → K (act.put o.dst (.slice a' m c')) w') :
    if Region.wanted o (yielded ops act.tmps) = true then Oper.wp Try.prog o act w K Q else E := by
  rw [if_pos (by simp [Region.wanted, hgd])]
  obtain ⟨b0, o0, hs⟩ := hs
  obtain ⟨a', c', w', hr, h2, h3, h4⟩ := run_append_zero o.type b0 o0 a m c xs hm hin hnc hbig hb
  unfold Oper.wp execOp
  simp only [ho, resolve, invoke, builtin, Sem.run_bind, Sem.run_pure, Result.andThen_ok, List.map_toArray, List.map_cons, List.map_nil, hs, hx, hr]
  exact h a' c' w' h2 h3 h4
/-- In a region that doesn't. -/
theorem wpList_append_zero {w0 w : World} {ops : Array Oper} {rest : List Oper} {o : Oper} {act : Act} {Q : Exit → Act → World → Prop} (hgd : o.guard = none) (s x : Operand)
    (ho : o.op = .call { callee := .builtin .append, args := #[s, x], argTypes := #[22, 22] })
    (hs : ∃ b0 o0, act.eval s = .slice (some ⟨b0, o0, none⟩) 0 0) (a : Option Addr) (m c : Nat) (hx : act.eval x = .slice a m c) (xs : List Int) (hm : xs.length = m) (hin : IsInts w0 a xs) (hnc : a = none → c = 0) (hbig : m ≤ 1000000) (hb : Below w0.heap.size w0 w)
    (h : ∀ a' c' w', NewLi w' w0.heap.size a' m c' xs → Below w0.heap.size w0 w' → Below w.heap.size w w' → wpList Try.prog ops Q rest (act.put o.dst (.slice a' m c')) w') : wpList Try.prog ops Q (o :: rest) act w := by
  refine wpList_plain hgd fun _ hK => ?_
  obtain ⟨b0, o0, hs⟩ := hs
  obtain ⟨a', c', w', hr, h2, h3, h4⟩ := run_append_zero o.type b0 o0 a m c xs hm hin hnc hbig hb
  unfold Oper.wp execOp
  simp only [ho, resolve, invoke, builtin, Sem.run_bind, Sem.run_pure, Result.andThen_ok, List.map_toArray, List.map_cons, List.map_nil, hs, hx, hr]
  exact hK _ _ (h a' c' w' h2 h3 h4)

end Go.Proofs.Ytmaoimjfkncnpaa
