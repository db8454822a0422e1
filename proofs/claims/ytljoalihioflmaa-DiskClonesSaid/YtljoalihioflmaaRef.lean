/-
  The reference's disk (package recoupref01): what its memory holds. Conditions: those of each theorem ('RefAt': the pointer leads to a reference disk that holds D).
-/
import Derived.Test.YtljoalihioflmaaDiskI
namespace Go.Proofs.Ytljoalihioflmaa
open Go.RowKit
set_option maxRecDepth 100000

/-- The reference's fuse: -1, if none is lit. -/
def DM.fz (D : DM) : Int := if D.lit then (D.fuse : Int) else -1
/-- What memory holds of a disk at block p; S: the blocks that are its own; V: its files' slices. -/
structure RefAt (w : World) (p : Nat) (S : Nat → Prop) (V : Nat → Value) (D : DM) : Prop where
  ok : D.ok
  own : S p
  lt : ∀ k, S k → k < w.heap.size
  blk : ∃ cur, w.heap[p]? = some (.cells cur 84 (0, 0)) ∧ cur.size = 27
  c0 : w.cell? ⟨p, 0, none⟩ = some (.int .i64 (D.cap : Int))
  has : ∀ i, i < 8 → w.cell? ⟨p, 1 + i * 3, none⟩ = some (.bool (D.f i).has)
  val : ∀ i, i < 8 → w.cell? ⟨p, 1 + i * 3 + 1, none⟩ = some (V i)
  safe : ∀ i, i < 8 → w.cell? ⟨p, 1 + i * 3 + 2, none⟩ = some (.int .i64 ((D.f i).safe : Int))
  c25 : w.cell? ⟨p, 25, none⟩ = some (.int .i64 D.fz)
  c26 : w.cell? ⟨p, 26, none⟩ = some (.bool D.lost)
  row : ∀ i, i < 8 → w.ownsRow 0 5 1 (V i) (D.f i).b.length ((D.f i).b.map bval)
  mine : ∀ i, i < 8 → ∀ g, (V i).ownBlock = some g → S g ∧ g ≠ p
  apart : ∀ i j, i < 8 → j < 8 → i ≠ j → ∀ g, (V i).ownBlock = some g → (V j).ownBlock ≠ some g

theorem RefAt.frozen {w : World} {p : Nat} {S : Nat → Prop} {V : Nat → Value} {D : DM} (h : RefAt w p S V D) (o : Nat) : w.frozen? ⟨p, o, none⟩ = false := by
  obtain ⟨cur, h1, _⟩ := h.blk
  simp [World.frozen?, h1]

theorem RefAt.upd {w w' : World} {p : Nat} {S T : Nat → Prop} {V : Nat → Value} {D : DM} (h : RefAt w p S V D) (hu : Upd T w w') (hd : ∀ k, S k → ¬ T k) : RefAt w' p S V D := by
  have hp := h.lt p h.own
  have hn := hd p h.own
  have e := fun o => hu.cell (p := ⟨p, o, none⟩) hp hn
  refine ⟨h.ok, h.own, fun k hk => Nat.lt_of_lt_of_le (h.lt k hk) hu.size, ?_, ?_, ?_, ?_, ?_, ?_, ?_, ?_, h.mine, h.apart⟩
  · rw [hu.block p hp hn]; exact h.blk
  · rw [e]; exact h.c0
  · intro i hi; rw [e]; exact h.has i hi
  · intro i hi; rw [e]; exact h.val i hi
  · intro i hi; rw [e]; exact h.safe i hi
  · rw [e]; exact h.c25
  · rw [e]; exact h.c26
  · intro i hi; exact ownsRow_upd (h.row i hi) hu (fun g hg => hd g (h.mine i hi g hg).1)

/-- The values of a file's slice. -/
theorem RefAt.slice {w : World} {p : Nat} {S : Nat → Prop} {V : Nat → Value} {D : DM} (h : RefAt w p S V D) (i : Nat) (hi : i < 8) :
    ∃ a cap, V i = .slice a (D.f i).b.length cap := by
  rcases (h.row i hi).2 with ⟨h1, h2⟩ | ⟨g, cap, cur, hv, _⟩
  · exact ⟨none, 0, by rw [h1, h2]⟩
  · exact ⟨_, _, hv⟩

theorem RefAt.cells {w : World} {p : Nat} {S : Nat → Prop} {V : Nat → Value} {D : DM} (h : RefAt w p S V D) :
    ∃ cs : Array Value, cs.size = 24 ∧ (∀ j v, cs[j]? = some v → w.cell? ⟨p, 1 + j, none⟩ = some v) ∧
      ∀ i, i < 8 → cs[i * 3]? = some (.bool (D.f i).has) ∧ cs[i * 3 + 1]? = some (V i) ∧ cs[i * 3 + 2]? = some (.int .i64 ((D.f i).safe : Int)) := by
  obtain ⟨cur, hc, hs⟩ := h.blk
  have key : ∀ j, j < 24 → (cur.extract 1 25)[j]? = w.cell? ⟨p, 1 + j, none⟩ := by
    intro j hj
    rw [cell_of_row w p (1 + j) cur _ _ hc, Array.getElem?_extract, if_pos (by omega)]
  refine ⟨cur.extract 1 25, by simp [hs], fun j v hj => ?_, fun i hi => ⟨?_, ?_, ?_⟩⟩
  · rw [← key j (by have := (Array.getElem?_eq_some_iff.1 hj).1; simp [hs] at this; omega)]; exact hj
  · rw [key _ (by omega)]; exact h.has i hi
  · rw [key _ (by omega)]; exact h.val i hi
  · rw [key _ (by omega)]; exact h.safe i hi

theorem RefAt.put {w w' : World} {p : Nat} {S : Nat → Prop} {V : Nat → Value} {D : DM} (h : RefAt w p S V D) {i : Nat} (hi : i < 8) (x : FM) (v : Value)
    (hu : Upd (fun k => k = p ∨ (V i).ownBlock = some k) w w')
    (hb : ∃ cur, w'.heap[p]? = some (.cells cur 84 (0, 0)) ∧ cur.size = 27)
    (ho : ∀ o, o < 1 + i * 3 ∨ 1 + i * 3 + 3 ≤ o → w'.cell? ⟨p, o, none⟩ = w.cell? ⟨p, o, none⟩)
    (h0 : w'.cell? ⟨p, 1 + i * 3, none⟩ = some (.bool x.has)) (h1 : w'.cell? ⟨p, 1 + i * 3 + 1, none⟩ = some v) (h2 : w'.cell? ⟨p, 1 + i * 3 + 2, none⟩ = some (.int .i64 (x.safe : Int)))
    (hr : w'.ownsRow 0 5 1 v x.b.length (x.b.map bval))
    (hg : ∀ g, v.ownBlock = some g → (V i).ownBlock = some g ∨ w.heap.size ≤ g)
    (hok : (D.set i x).ok) : RefAt w' p (More S w w') (fun j => if j = i then v else V j) (D.set i x) := by
  have hp := h.lt p h.own
  have hlt : ∀ j, j < 8 → ∀ g, (V j).ownBlock = some g → g < w.heap.size := fun j hj g hg => h.lt g (h.mine j hj g hg).1
  have hgl : ∀ g, v.ownBlock = some g → g < w'.heap.size := fun g hv => (hr.lt g hv).2
  refine ⟨hok, .inl h.own, ?_, hb, ?_, ?_, ?_, ?_, ?_, ?_, ?_, ?_, ?_⟩
  · rintro k (hk | hk)
    · exact Nat.lt_of_lt_of_le (h.lt k hk) hu.size
    · exact hk.2
  · rw [ho 0 (by omega)]; exact h.c0
  · intro j hj
    by_cases e : j = i
    · subst e; simp only [DM.set, if_true]; exact h0
    · simp only [DM.set, e, if_false]; rw [ho _ (by omega)]; exact h.has j hj
  · intro j hj
    by_cases e : j = i
    · subst e; simp only [if_true]; exact h1
    · simp only [e, if_false]; rw [ho _ (by omega)]; exact h.val j hj
  · intro j hj
    by_cases e : j = i
    · subst e; simp only [DM.set, if_true]; exact h2
    · simp only [DM.set, e, if_false]; rw [ho _ (by omega)]; exact h.safe j hj
  · rw [ho 25 (by omega)]; exact h.c25
  · rw [ho 26 (by omega)]; exact h.c26
  · intro j hj
    by_cases e : j = i
    · subst e; simp only [DM.set, if_true]; exact hr
    · simp only [DM.set, e, if_false]
      refine ownsRow_upd (h.row j hj) hu ?_
      rintro g hg' (rfl | hk)
      · exact (h.mine j hj g hg').2 rfl
      · exact h.apart i j hi hj (Ne.symm e) g hk hg'
  · intro j hj g hg'
    by_cases e : j = i
    · subst e; simp only [if_true] at hg'
      rcases hg g hg' with hx | hx
      · exact ⟨.inl (h.mine j hj g hx).1, (h.mine j hj g hx).2⟩
      · exact ⟨.inr ⟨hx, hgl g hg'⟩, by omega⟩
    · simp only [e, if_false] at hg'
      exact ⟨.inl (h.mine j hj g hg').1, (h.mine j hj g hg').2⟩
  · intro j k hj hk hjk g
    by_cases e1 : j = i
    · subst e1
      have e2 : ¬ k = j := fun x => hjk x.symm
      simp only [if_true, e2, if_false]
      intro hv hx
      rcases hg g hv with hy | hy
      · exact h.apart j k hj hk hjk g hy hx
      · have := hlt k hk g hx; omega
    · simp only [e1, if_false]
      by_cases e2 : k = i
      · subst e2
        simp only [if_true]
        intro hx hv
        rcases hg g hv with hy | hy
        · exact h.apart j k hj hk hjk g hx hy
        · have := hlt j hj g hx; omega
      · simp only [e2, if_false]
        exact h.apart j k hj hk hjk g

/-- A cell of the disk's own block that is none of its files' is stored into. -/
theorem RefAt.blk_set {w : World} {p : Nat} {S : Nat → Prop} {V : Nat → Value} {D : DM} (h : RefAt w p S V D) (o : Nat) (u : Value) :
    ∃ cur, (w.setCell ⟨p, o, none⟩ u).heap[p]? = some (.cells cur 84 (0, 0)) ∧ cur.size = 27 := by
  obtain ⟨cur, h1, h2⟩ := h.blk
  exact ⟨_, setCell_heap_at h1, by simpa using h2⟩

theorem RefAt.lose {w : World} {p : Nat} {S : Nat → Prop} {V : Nat → Value} {D : DM} (h : RefAt w p S V D) : RefAt (w.setCell ⟨p, 26, none⟩ (.bool true)) p S V { D with lost := true } := by
  refine ⟨⟨h.ok.cap, h.ok.used, h.ok.safe, h.ok.none, h.ok.fuse⟩, h.own, fun k hk => by rw [setCell_size]; exact h.lt k hk, h.blk_set 26 _, ?_, ?_, ?_, ?_, ?_, ?_, ?_, h.mine, h.apart⟩
  · rw [cell_other (by omega)]; exact h.c0
  · intro i hi; rw [cell_other (by omega)]; exact h.has i hi
  · intro i hi; rw [cell_other (by omega)]; exact h.val i hi
  · intro i hi; rw [cell_other (by omega)]; exact h.safe i hi
  · rw [cell_other (by omega)]; exact h.c25
  · exact cell_same h.c26
  · intro i hi; exact ownsRow_upd (h.row i hi) (upd_set 26 _) (fun g hg => (h.mine i hi g hg).2)
theorem RefAt.unlose {w : World} {p : Nat} {S : Nat → Prop} {V : Nat → Value} {D : DM} (h : RefAt w p S V D) : RefAt (w.setCell ⟨p, 26, none⟩ (.bool false)) p S V { D with lost := false } := by
  refine ⟨⟨h.ok.cap, h.ok.used, h.ok.safe, h.ok.none, h.ok.fuse⟩, h.own, fun k hk => by rw [setCell_size]; exact h.lt k hk, h.blk_set 26 _, ?_, ?_, ?_, ?_, ?_, ?_, ?_, h.mine, h.apart⟩
  · rw [cell_other (by omega)]; exact h.c0
  · intro i hi; rw [cell_other (by omega)]; exact h.has i hi
  · intro i hi; rw [cell_other (by omega)]; exact h.val i hi
  · intro i hi; rw [cell_other (by omega)]; exact h.safe i hi
  · rw [cell_other (by omega)]; exact h.c25
  · exact cell_same h.c26
  · intro i hi; exact ownsRow_upd (h.row i hi) (upd_set 26 _) (fun g hg => (h.mine i hi g hg).2)
theorem RefAt.fused {w : World} {p : Nat} {S : Nat → Prop} {V : Nat → Value} {D : DM} (h : RefAt w p S V D) (l : Bool) (n : Nat) (v : Int) (hv : v = if l then (n : Int) else -1) (hn : n ≤ 9223372036854775807) :
    RefAt (w.setCell ⟨p, 25, none⟩ (.int .i64 v)) p S V { D with lit := l, fuse := n } := by
  refine ⟨⟨h.ok.cap, h.ok.used, h.ok.safe, h.ok.none, hn⟩, h.own, fun k hk => by rw [setCell_size]; exact h.lt k hk, h.blk_set 25 _, ?_, ?_, ?_, ?_, ?_, ?_, ?_, h.mine, h.apart⟩
  · rw [cell_other (by omega)]; exact h.c0
  · intro i hi; rw [cell_other (by omega)]; exact h.has i hi
  · intro i hi; rw [cell_other (by omega)]; exact h.val i hi
  · intro i hi; rw [cell_other (by omega)]; exact h.safe i hi
  · rw [cell_same h.c25, hv]; rfl
  · rw [cell_other (by omega)]; exact h.c26
  · intro i hi; exact ownsRow_upd (h.row i hi) (upd_set 25 _) (fun g hg => (h.mine i hi g hg).2)
theorem RefAt.below {w w' : World} {p : Nat} {S : Nat → Prop} {V : Nat → Value} {D : DM} (h : RefAt w p S V D) (hb : Below w.heap.size w w') : RefAt w' p S V D :=
  h.upd (T := fun _ => False) (Upd.below hb) (fun _ _ x => x)

theorem RefAt.drew {w : World} {p : Nat} {S : Nat → Prop} {V : Nat → Value} {D : DM} (h : RefAt w p S V D) : RefAt w.drew p S V D :=
  h.upd (T := fun _ => False) ((Upd.refl _ _).drew) (fun _ _ x => x)

theorem RefAt.slice' {w : World} {p : Nat} {S : Nat → Prop} {V : Nat → Value} {D : DM} (h : RefAt w p S V D) (i : Nat) (hi : i < 8) :
    ∃ a c, V i = .slice a (D.f i).b.length c ∧ (D.f i).b.length ≤ c ∧ c ≤ maxLen ∧ (a = none → (D.f i).b.length = 0 ∧ c = 0) := by
  rcases (h.row i hi).2 with ⟨h1, h2⟩ | ⟨g, cap, cur, hv, _, _, h3, h4, _⟩
  · exact ⟨none, 0, by rw [h1, h2], by omega, Nat.zero_le _, fun _ => ⟨h2, rfl⟩⟩
  · exact ⟨_, _, hv, h3, h4, fun x => by cases x⟩

/-- A file's three cells are stored over: the file is gone. -/
theorem RefAt.gone {w : World} {p : Nat} {S : Nat → Prop} {V : Nat → Value} {D : DM} (h : RefAt w p S V D) {i : Nat} (hi : i < 8) :
    ∃ V', RefAt (((w.setCell ⟨p, 1 + i * 3, none⟩ (.bool false)).setCell ⟨p, 1 + i * 3 + 1, none⟩ (.slice none 0 0)).setCell ⟨p, 1 + i * 3 + 2, none⟩ (.int .i64 0)) p S V' (D.set i FM.gone) := by
  have hu : Upd (fun k => k = p) w (((w.setCell ⟨p, 1 + i * 3, none⟩ (.bool false)).setCell ⟨p, 1 + i * 3 + 1, none⟩ (.slice none 0 0)).setCell ⟨p, 1 + i * 3 + 2, none⟩ (.int .i64 0)) :=
    (((Upd.refl (fun k => k = p) w).setCell (p := ⟨p, _, none⟩) (.inl rfl) _).setCell (p := ⟨p, _, none⟩) (.inl rfl) _).setCell (p := ⟨p, _, none⟩) (.inl rfl) _
  have h1 := h.put (w' := ((w.setCell ⟨p, 1 + i * 3, none⟩ (.bool false)).setCell ⟨p, 1 + i * 3 + 1, none⟩ (.slice none 0 0)).setCell ⟨p, 1 + i * 3 + 2, none⟩ (.int .i64 0)) hi FM.gone (.slice none 0 0)
    (hu.mono (fun k _ hk => .inl hk))
    (by
      obtain ⟨cur, e1, e2⟩ := h.blk
      exact ⟨_, setCell_heap_at (setCell_heap_at (setCell_heap_at e1)), by simpa using e2⟩)
    (fun o ho => by rw [cell_other (by omega), cell_other (by omega), cell_other (by omega)])
    (by rw [cell_other (by omega), cell_other (by omega)]; exact cell_same (h.has i hi))
    (by rw [cell_other (by omega)]; exact cell_same (by rw [cell_other (by omega)]; exact h.val i hi))
    (cell_same (by rw [cell_other (by omega), cell_other (by omega)]; exact h.safe i hi))
    (World.ownsRow_nil _ _ _ _)
    (fun g hg => by cases hg)
    (h.ok.set hi (Nat.le_refl _) (fun _ => ⟨rfl, rfl⟩) (by have := h.ok.used; simp [FM.gone]; omega))
  have hS : More S w (((w.setCell ⟨p, 1 + i * 3, none⟩ (.bool false)).setCell ⟨p, 1 + i * 3 + 1, none⟩ (.slice none 0 0)).setCell ⟨p, 1 + i * 3 + 2, none⟩ (.int .i64 0)) = S := by
    funext k
    simp only [More, setCell_size]
    exact propext ⟨fun x => x.elim id (fun y => by omega), .inl⟩
  rw [hS] at h1
  exact ⟨_, h1⟩

theorem RefAt.moved {w : World} {p : Nat} {S : Nat → Prop} {V : Nat → Value} {D : DM} (h : RefAt w p S V D) {i j : Nat} (hi : i < 8) (hj : j < 8) (hij : i ≠ j) (hh : (D.f i).has = true) {a : Option Addr} {c : Nat} (hv : V i = .slice a (D.f i).b.length c) :
    ∃ V', RefAt (moved w p i j a (D.f i).b.length c (D.f i).safe) p S V' ((D.set j (D.f i)).set i FM.gone) ∧ Upd (fun k => k = p) w (moved w p i j a (D.f i).b.length c (D.f i).safe) := by
  have hu : Upd (fun k => k = p) w (Go.Proofs.Ytljoalihioflmaa.moved w p i j a (D.f i).b.length c (D.f i).safe) :=
    ((((((Upd.refl (fun k => k = p) w).setCell (p := ⟨p, _, none⟩) (.inl rfl) _).setCell (p := ⟨p, _, none⟩) (.inl rfl) _).setCell (p := ⟨p, _, none⟩) (.inl rfl) _).setCell (p := ⟨p, _, none⟩) (.inl rfl) _).setCell (p := ⟨p, _, none⟩) (.inl rfl) _).setCell (p := ⟨p, _, none⟩) (.inl rfl) _
  have hne : i < j ∨ j < i := by omega
  have far : ∀ o, (o < 1 + i * 3 ∨ 1 + i * 3 + 3 ≤ o) → (o < 1 + j * 3 ∨ 1 + j * 3 + 3 ≤ o) → (Go.Proofs.Ytljoalihioflmaa.moved w p i j a (D.f i).b.length c (D.f i).safe).cell? ⟨p, o, none⟩ = w.cell? ⟨p, o, none⟩ := by
    intro o h1 h2
    unfold Go.Proofs.Ytljoalihioflmaa.moved
    rw [cell_other (by omega), cell_other (by omega), cell_other (by omega), cell_other (by omega), cell_other (by omega), cell_other (by omega)]
  refine ⟨fun k => if k = i then .slice none 0 0 else if k = j then V i else V k, ⟨⟨h.ok.cap, ?_, ?_, ?_, h.ok.fuse⟩, h.own, ?_, ?_, ?_, ?_, ?_, ?_, ?_, ?_, ?_, ?_, ?_⟩, hu⟩
  · have := DM.moved_used (D := D) hi hj hij; have := h.ok.used; show ((D.set j (D.f i)).set i FM.gone).used 8 ≤ D.cap; omega
  · intro k hk
    by_cases e1 : k = i
    · subst e1; simp [DM.set, FM.gone]
    · by_cases e2 : k = j
      · subst e2; simp only [DM.set, e1, if_true, if_false]; exact h.ok.safe i hi
      · simp only [DM.set, e1, e2, if_false]; exact h.ok.safe k hk
  · intro k hk
    by_cases e1 : k = i
    · subst e1; simp [DM.set, FM.gone]
    · by_cases e2 : k = j
      · subst e2; simp only [DM.set, e1, if_true, if_false]; exact h.ok.none i hi
      · simp only [DM.set, e1, e2, if_false]; exact h.ok.none k hk
  · intro k hk; exact Nat.lt_of_lt_of_le (h.lt k hk) hu.size
  · obtain ⟨cur, e1, e2⟩ := h.blk
    exact ⟨_, setCell_heap_at (setCell_heap_at (setCell_heap_at (setCell_heap_at (setCell_heap_at (setCell_heap_at e1))))), by simpa using e2⟩
  · rw [far 0 (by omega) (by omega)]; exact h.c0
  · intro k hk
    by_cases e1 : k = i
    · subst e1
      simp only [DM.set, if_true, FM.gone]
      unfold Go.Proofs.Ytljoalihioflmaa.moved
      rw [cell_other (by omega), cell_other (by omega)]
      exact cell_same (by rw [cell_other (by omega), cell_other (by omega), cell_other (by omega)]; exact h.has k hk)
    · by_cases e2 : k = j
      · subst e2
        simp only [DM.set, e1, if_true, if_false]
        unfold Go.Proofs.Ytljoalihioflmaa.moved
        rw [cell_other (by omega), cell_other (by omega), cell_other (by omega), cell_other (by omega), cell_other (by omega), hh]
        exact cell_same (h.has k hk)
      · simp only [DM.set, e1, e2, if_false]
        rw [far _ (by omega) (by omega)]; exact h.has k hk
  · intro k hk
    by_cases e1 : k = i
    · subst e1
      simp only [if_true]
      unfold Go.Proofs.Ytljoalihioflmaa.moved
      rw [cell_other (by omega)]
      exact cell_same (by rw [cell_other (by omega), cell_other (by omega), cell_other (by omega), cell_other (by omega)]; exact h.val k hk)
    · by_cases e2 : k = j
      · subst e2
        simp only [e1, if_true, if_false]
        unfold Go.Proofs.Ytljoalihioflmaa.moved
        rw [cell_other (by omega), cell_other (by omega), cell_other (by omega), cell_other (by omega), hv]
        exact cell_same (by rw [cell_other (by omega)]; exact h.val k hk)
      · simp only [e1, e2, if_false]
        rw [far _ (by omega) (by omega)]; exact h.val k hk
  · intro k hk
    by_cases e1 : k = i
    · subst e1
      simp only [DM.set, if_true, FM.gone]
      unfold Go.Proofs.Ytljoalihioflmaa.moved
      exact cell_same (by rw [cell_other (by omega), cell_other (by omega), cell_other (by omega), cell_other (by omega), cell_other (by omega)]; exact h.safe k hk)
    · by_cases e2 : k = j
      · subst e2
        simp only [DM.set, e1, if_true, if_false]
        unfold Go.Proofs.Ytljoalihioflmaa.moved
        rw [cell_other (by omega), cell_other (by omega), cell_other (by omega)]
        exact cell_same (by rw [cell_other (by omega), cell_other (by omega)]; exact h.safe k hk)
      · simp only [DM.set, e1, e2, if_false]
        rw [far _ (by omega) (by omega)]; exact h.safe k hk
  · rw [far 25 (by omega) (by omega)]; exact h.c25
  · rw [far 26 (by omega) (by omega)]; exact h.c26
  · intro k hk
    by_cases e1 : k = i
    · subst e1; simp only [DM.set, if_true, FM.gone]; exact World.ownsRow_nil _ _ _ _
    · by_cases e2 : k = j
      · subst e2; simp only [DM.set, e1, if_true, if_false]
        exact ownsRow_upd (h.row i hi) hu (fun g hg => (h.mine i hi g hg).2)
      · simp only [DM.set, e1, e2, if_false]
        exact ownsRow_upd (h.row k hk) hu (fun g hg => (h.mine k hk g hg).2)
  · intro k hk g
    by_cases e1 : k = i
    · simp only [e1, if_true]; intro hg; cases hg
    · by_cases e2 : k = j
      · have e3 : ¬ j = i := fun x => hij x.symm
        simp only [e2, e3, if_true, if_false]; exact h.mine i hi g
      · simp only [e1, e2, if_false]; exact h.mine k hk g
  · intro k l hk hl hkl g
    by_cases e1 : k = i
    · simp only [e1, if_true]; intro hg; cases hg
    · by_cases e3 : l = i
      · simp only [e3, if_true]; intro _ hg; cases hg
      · simp only [e1, e3, if_false]
        by_cases e2 : k = j
        · by_cases e4 : l = j
          · omega
          · simp only [e2, e4, if_true, if_false]; exact h.apart i l hi hl (fun x => e3 x.symm) g
        · by_cases e4 : l = j
          · simp only [e2, e4, if_true, if_false]; exact h.apart k i hk hi e1 g
          · simp only [e2, e4, if_false]; exact h.apart k l hk hl hkl g
end Go.Proofs.Ytljoalihioflmaa
