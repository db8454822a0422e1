/-
  The reference's disk (package recoupref01): Restart. Conditions: those of each theorem ('RefAt': the pointer leads to a reference disk that holds D). Ahead of it, in one text: What the reading of eight numbers says of its cells. No conditions but those of the theorem. The reference's disk (package recoupref01): what its memory holds. Conditions: those of each theorem ('RefAt': the pointer leads to a reference disk that holds D). The reference's disk (package recoupref01): New, Room. Conditions: those of each theorem ('RefAt': the pointer leads to a reference disk that holds D). The reference's disk (package recoupref01): Act. Conditions: those of each theorem ('RefAt': the pointer leads to a reference disk that holds D). The reference's disk (package recoupref01): Act, kinds 1 (Sync) and 4 (Remove). Conditions: those of each theorem ('RefAt': the pointer leads to a reference disk that holds D). The reference's disk (package recoupref01): Act, kind 2 (Cut). Conditions: those of each theorem ('RefAt': the pointer leads to a reference disk that holds D). The reference's disk (package recoupref01): Act, kind 0 (Append). Conditions: those of each theorem ('RefAt': the pointer leads to a reference disk that holds D). The reference's disk (package recoupref01): Act, kind 0 (Append). Conditions: those of each theorem ('RefAt': the pointer leads to a reference disk that holds D).
-/
import Derived.Test.YteipcbpkgpffjaaDoorRd
import Derived.Test.YteipcbpkgpffjaaDoorDiskI
import Derived.Test.YteipcbpkgpffjaaDoorOpsB
import Derived.BigRegion
import Derived.Deep.RegionHeld3
import Derived.Deep.RegionLaw
namespace Go.Proofs.YteipcbpkgpffjaaDoor
open Go.RowKit Go.WideShapes
set_option maxRecDepth 100000

theorem cells_u8 : Tryd.prog.cellsOf 5 = 1 := by kernel_rfl
theorem cells_int : Tryd.prog.cellsOf 3 = 1 := by kernel_rfl
theorem cells_bytes : Tryd.prog.cellsOf 22 = 1 := by kernel_rfl
theorem cells_keep : Tryd.prog.cellsOf 34 = 8 := by kernel_rfl

theorem rd_ints8 {w : World} {c4 c5 c6 c7 c8 c9 c10 c11 : Value} (h : Rd Tryd.prog w 34 [c4, c5, c6, c7, c8, c9, c10, c11]) :
    ∃ k0 k1 k2 k3 k4 k5 k6 k7, c4 = .int .i64 k0 ∧ c5 = .int .i64 k1 ∧ c6 = .int .i64 k2 ∧ c7 = .int .i64 k3 ∧ c8 = .int .i64 k4 ∧ c9 = .int .i64 k5 ∧ c10 = .int .i64 k6 ∧ c11 = .int .i64 k7 ∧
      I64 k0 ∧ I64 k1 ∧ I64 k2 ∧ I64 k3 ∧ I64 k4 ∧ I64 k5 ∧ I64 k6 ∧ I64 k7 := by
  obtain ⟨_, hi⟩ := h.array Tryd.underlying34
  rw [cells_int] at hi
  have get : ∀ i (hi8 : i < 8) c, ([c4, c5, c6, c7, c8, c9, c10, c11].drop (i * 1)).take 1 = [c] → ∃ n, c = .int .i64 n ∧ I64 n := by
    intro i hi8 c hc
    have h1 := hi i hi8
    rw [hc] at h1
    obtain ⟨n, e, hw⟩ := h1.int Tryd.underlying3
    exact ⟨n, by injection e, wf_i64 hw⟩
  obtain ⟨k0, e0, i0⟩ := get 0 (by decide) c4 rfl
  obtain ⟨k1, e1, i1⟩ := get 1 (by decide) c5 rfl
  obtain ⟨k2, e2, i2⟩ := get 2 (by decide) c6 rfl
  obtain ⟨k3, e3, i3⟩ := get 3 (by decide) c7 rfl
  obtain ⟨k4, e4, i4⟩ := get 4 (by decide) c8 rfl
  obtain ⟨k5, e5, i5⟩ := get 5 (by decide) c9 rfl
  obtain ⟨k6, e6, i6⟩ := get 6 (by decide) c10 rfl
  obtain ⟨k7, e7, i7⟩ := get 7 (by decide) c11 rfl
  exact ⟨k0, k1, k2, k3, k4, k5, k6, k7, e0, e1, e2, e3, e4, e5, e6, e7, i0, i1, i2, i3, i4, i5, i6, i7⟩

theorem rd_keep {w : World} {v : Value} {r : Reach} {base : Nat} (hv : Value.okWide Tryd.prog w r base 34 v) (h : Rd Tryd.prog w 34 v.cells.toList) :
    ∃ k0 k1 k2 k3 k4 k5 k6 k7, v = .agg #[.int .i64 k0, .int .i64 k1, .int .i64 k2, .int .i64 k3, .int .i64 k4, .int .i64 k5, .int .i64 k6, .int .i64 k7] := by
  have hl := (h.array Tryd.underlying34).1
  rw [cells_keep] at hl
  rw [val_agg hv Tryd.underlying34]
  generalize v.cells = cs at *
  obtain ⟨l⟩ := cs
  match l, hl with
  | [c4, c5, c6, c7, c8, c9, c10, c11], _ =>
    obtain ⟨k0, k1, k2, k3, k4, k5, k6, k7, rfl, rfl, rfl, rfl, rfl, rfl, rfl, rfl, _⟩ := rd_ints8 h
    exact ⟨k0, k1, k2, k3, k4, k5, k6, k7, rfl⟩
end Go.Proofs.YteipcbpkgpffjaaDoor

namespace Go.Proofs.YteipcbpkgpffjaaDoor
open Go.RowKit
set_option maxRecDepth 100000

/-- The reference's fuse: -1, if none is lit. -/
def DM.fz (D : DM) : Int := if D.lit then (D.fuse : Int) else -1
/-- What memory holds of a disk at block p; S: the blocks that are its own; V: its files' slices. -/
structure RefAt (w : World) (p : Nat) (S : Nat → Prop) (V : Nat → Value) (D : DM) : Prop where
  ok : D.ok
  own : S p
  lt : ∀ k, S k → k < w.heap.size
  blk : ∃ cur, w.heap[p]? = some (.cells cur 83 (0, 0)) ∧ cur.size = 27
  c0 : w.cell? ⟨p, 0, none⟩ = some (.int .i64 (D.cap : Int))
  has : ∀ i, i < 8 → w.cell? ⟨p, 1 + i * 3, none⟩ = some (.bool (D.f i).has)
  val : ∀ i, i < 8 → w.cell? ⟨p, 1 + i * 3 + 1, none⟩ = some (V i)
  safe : ∀ i, i < 8 → w.cell? ⟨p, 1 + i * 3 + 2, none⟩ = some (.int .i64 ((D.f i).safe : Int))
  c25 : w.cell? ⟨p, 25, none⟩ = some (.int .i64 D.fz)
  c26 : w.cell? ⟨p, 26, none⟩ = some (.bool D.lost)
  row : ∀ i, i < 8 → w.ownsRow 0 5 1 (V i) (D.f i).b.length ((D.f i).b.map bval)
  mine : ∀ i, i < 8 → ∀ g, (V i).ownBlock = some g → S g ∧ g ≠ p
  apart : ∀ i j, i < 8 → j < 8 → i ≠ j → ∀ g, (V i).ownBlock = some g → (V j).ownBlock ≠ some g

theorem RefAt.frozen {w : World} {p : Nat} {S : Nat → Prop} {V : Nat → Value} {D : DM} (h : RefAt w p S V D) (o : Nat) : w.frozen? ⟨p, o, none⟩ = false := by
  obtain ⟨cur, h1, _⟩ := h.blk
  simp [World.frozen?, h1]

theorem RefAt.upd {w w' : World} {p : Nat} {S T : Nat → Prop} {V : Nat → Value} {D : DM} (h : RefAt w p S V D) (hu : Upd T w w') (hd : ∀ k, S k → ¬ T k) : RefAt w' p S V D := by
  have hp := h.lt p h.own
  have hn := hd p h.own
  have e := fun o => hu.cell (p := ⟨p, o, none⟩) hp hn
  refine ⟨h.ok, h.own, fun k hk => Nat.lt_of_lt_of_le (h.lt k hk) hu.size, ?_, ?_, ?_, ?_, ?_, ?_, ?_, ?_, h.mine, h.apart⟩
  · rw [hu.block p hp hn]; exact h.blk
  · rw [e]; exact h.c0
  · intro i hi; rw [e]; exact h.has i hi
  · intro i hi; rw [e]; exact h.val i hi
  · intro i hi; rw [e]; exact h.safe i hi
  · rw [e]; exact h.c25
  · rw [e]; exact h.c26
  · intro i hi; exact ownsRow_upd (h.row i hi) hu (fun g hg => hd g (h.mine i hi g hg).1)

/-- The values of a file's slice. -/
theorem RefAt.slice {w : World} {p : Nat} {S : Nat → Prop} {V : Nat → Value} {D : DM} (h : RefAt w p S V D) (i : Nat) (hi : i < 8) :
    ∃ a cap, V i = .slice a (D.f i).b.length cap := by
  rcases (h.row i hi).2 with ⟨h1, h2⟩ | ⟨g, cap, cur, hv, _⟩
  · exact ⟨none, 0, by rw [h1, h2]⟩
  · exact ⟨_, _, hv⟩

theorem RefAt.cells {w : World} {p : Nat} {S : Nat → Prop} {V : Nat → Value} {D : DM} (h : RefAt w p S V D) :
    ∃ cs : Array Value, cs.size = 24 ∧ (∀ j v, cs[j]? = some v → w.cell? ⟨p, 1 + j, none⟩ = some v) ∧
      ∀ i, i < 8 → cs[i * 3]? = some (.bool (D.f i).has) ∧ cs[i * 3 + 1]? = some (V i) ∧ cs[i * 3 + 2]? = some (.int .i64 ((D.f i).safe : Int)) := by
  obtain ⟨cur, hc, hs⟩ := h.blk
  have key : ∀ j, j < 24 → (cur.extract 1 25)[j]? = w.cell? ⟨p, 1 + j, none⟩ := by
    intro j hj
    rw [cell_of_row w p (1 + j) cur _ _ hc, Array.getElem?_extract, if_pos (by omega)]
  refine ⟨cur.extract 1 25, by simp [hs], fun j v hj => ?_, fun i hi => ⟨?_, ?_, ?_⟩⟩
  · rw [← key j (by have := (Array.getElem?_eq_some_iff.1 hj).1; simp [hs] at this; omega)]; exact hj
  · rw [key _ (by omega)]; exact h.has i hi
  · rw [key _ (by omega)]; exact h.val i hi
  · rw [key _ (by omega)]; exact h.safe i hi

theorem RefAt.put {w w' : World} {p : Nat} {S : Nat → Prop} {V : Nat → Value} {D : DM} (h : RefAt w p S V D) {i : Nat} (hi : i < 8) (x : FM) (v : Value)
    (hu : Upd (fun k => k = p ∨ (V i).ownBlock = some k) w w')
    (hb : ∃ cur, w'.heap[p]? = some (.cells cur 83 (0, 0)) ∧ cur.size = 27)
    (ho : ∀ o, o < 1 + i * 3 ∨ 1 + i * 3 + 3 ≤ o → w'.cell? ⟨p, o, none⟩ = w.cell? ⟨p, o, none⟩)
    (h0 : w'.cell? ⟨p, 1 + i * 3, none⟩ = some (.bool x.has)) (h1 : w'.cell? ⟨p, 1 + i * 3 + 1, none⟩ = some v) (h2 : w'.cell? ⟨p, 1 + i * 3 + 2, none⟩ = some (.int .i64 (x.safe : Int)))
    (hr : w'.ownsRow 0 5 1 v x.b.length (x.b.map bval))
    (hg : ∀ g, v.ownBlock = some g → (V i).ownBlock = some g ∨ w.heap.size ≤ g)
    (hok : (D.set i x).ok) : RefAt w' p (More S w w') (fun j => if j = i then v else V j) (D.set i x) := by
  have hp := h.lt p h.own
  have hlt : ∀ j, j < 8 → ∀ g, (V j).ownBlock = some g → g < w.heap.size := fun j hj g hg => h.lt g (h.mine j hj g hg).1
  have hgl : ∀ g, v.ownBlock = some g → g < w'.heap.size := fun g hv => (hr.lt g hv).2
  refine ⟨hok, .inl h.own, ?_, hb, ?_, ?_, ?_, ?_, ?_, ?_, ?_, ?_, ?_⟩
  · rintro k (hk | hk)
    · exact Nat.lt_of_lt_of_le (h.lt k hk) hu.size
    · exact hk.2
  · rw [ho 0 (by omega)]; exact h.c0
  · intro j hj
    by_cases e : j = i
    · subst e; simp only [DM.set, if_true]; exact h0
    · simp only [DM.set, e, if_false]; rw [ho _ (by omega)]; exact h.has j hj
  · intro j hj
    by_cases e : j = i
    · subst e; simp only [if_true]; exact h1
    · simp only [e, if_false]; rw [ho _ (by omega)]; exact h.val j hj
  · intro j hj
    by_cases e : j = i
    · subst e; simp only [DM.set, if_true]; exact h2
    · simp only [DM.set, e, if_false]; rw [ho _ (by omega)]; exact h.safe j hj
  · rw [ho 25 (by omega)]; exact h.c25
  · rw [ho 26 (by omega)]; exact h.c26
  · intro j hj
    by_cases e : j = i
    · subst e; simp only [DM.set, if_true]; exact hr
    · simp only [DM.set, e, if_false]
      refine ownsRow_upd (h.row j hj) hu ?_
      rintro g hg' (rfl | hk)
      · exact (h.mine j hj g hg').2 rfl
      · exact h.apart i j hi hj (Ne.symm e) g hk hg'
  · intro j hj g hg'
    by_cases e : j = i
    · subst e; simp only [if_true] at hg'
      rcases hg g hg' with hx | hx
      · exact ⟨.inl (h.mine j hj g hx).1, (h.mine j hj g hx).2⟩
      · exact ⟨.inr ⟨hx, hgl g hg'⟩, by omega⟩
    · simp only [e, if_false] at hg'
      exact ⟨.inl (h.mine j hj g hg').1, (h.mine j hj g hg').2⟩
  · intro j k hj hk hjk g
    by_cases e1 : j = i
    · subst e1
      have e2 : ¬ k = j := fun x => hjk x.symm
      simp only [if_true, e2, if_false]
      intro hv hx
      rcases hg g hv with hy | hy
      · exact h.apart j k hj hk hjk g hy hx
      · have := hlt k hk g hx; omega
    · simp only [e1, if_false]
      by_cases e2 : k = i
      · subst e2
        simp only [if_true]
        intro hx hv
        rcases hg g hv with hy | hy
        · exact h.apart j k hj hk hjk g hx hy
        · have := hlt j hj g hx; omega
      · simp only [e2, if_false]
        exact h.apart j k hj hk hjk g

/-- A cell of the disk's own block that is none of its files' is stored into. -/
theorem RefAt.blk_set {w : World} {p : Nat} {S : Nat → Prop} {V : Nat → Value} {D : DM} (h : RefAt w p S V D) (o : Nat) (u : Value) :
    ∃ cur, (w.setCell ⟨p, o, none⟩ u).heap[p]? = some (.cells cur 83 (0, 0)) ∧ cur.size = 27 := by
  obtain ⟨cur, h1, h2⟩ := h.blk
  exact ⟨_, setCell_heap_at h1, by simpa using h2⟩

theorem RefAt.lose {w : World} {p : Nat} {S : Nat → Prop} {V : Nat → Value} {D : DM} (h : RefAt w p S V D) : RefAt (w.setCell ⟨p, 26, none⟩ (.bool true)) p S V { D with lost := true } := by
  refine ⟨⟨h.ok.cap, h.ok.used, h.ok.safe, h.ok.none, h.ok.fuse⟩, h.own, fun k hk => by rw [setCell_size]; exact h.lt k hk, h.blk_set 26 _, ?_, ?_, ?_, ?_, ?_, ?_, ?_, h.mine, h.apart⟩
  · rw [cell_other (by omega)]; exact h.c0
  · intro i hi; rw [cell_other (by omega)]; exact h.has i hi
  · intro i hi; rw [cell_other (by omega)]; exact h.val i hi
  · intro i hi; rw [cell_other (by omega)]; exact h.safe i hi
  · rw [cell_other (by omega)]; exact h.c25
  · exact cell_same h.c26
  · intro i hi; exact ownsRow_upd (h.row i hi) (upd_set 26 _) (fun g hg => (h.mine i hi g hg).2)
theorem RefAt.unlose {w : World} {p : Nat} {S : Nat → Prop} {V : Nat → Value} {D : DM} (h : RefAt w p S V D) : RefAt (w.setCell ⟨p, 26, none⟩ (.bool false)) p S V { D with lost := false } := by
  refine ⟨⟨h.ok.cap, h.ok.used, h.ok.safe, h.ok.none, h.ok.fuse⟩, h.own, fun k hk => by rw [setCell_size]; exact h.lt k hk, h.blk_set 26 _, ?_, ?_, ?_, ?_, ?_, ?_, ?_, h.mine, h.apart⟩
  · rw [cell_other (by omega)]; exact h.c0
  · intro i hi; rw [cell_other (by omega)]; exact h.has i hi
  · intro i hi; rw [cell_other (by omega)]; exact h.val i hi
  · intro i hi; rw [cell_other (by omega)]; exact h.safe i hi
  · rw [cell_other (by omega)]; exact h.c25
  · exact cell_same h.c26
  · intro i hi; exact ownsRow_upd (h.row i hi) (upd_set 26 _) (fun g hg => (h.mine i hi g hg).2)
theorem RefAt.fused {w : World} {p : Nat} {S : Nat → Prop} {V : Nat → Value} {D : DM} (h : RefAt w p S V D) (l : Bool) (n : Nat) (v : Int) (hv : v = if l then (n : Int) else -1) (hn : n ≤ 9223372036854775807) :
    RefAt (w.setCell ⟨p, 25, none⟩ (.int .i64 v)) p S V { D with lit := l, fuse := n } := by
  refine ⟨⟨h.ok.cap, h.ok.used, h.ok.safe, h.ok.none, hn⟩, h.own, fun k hk => by rw [setCell_size]; exact h.lt k hk, h.blk_set 25 _, ?_, ?_, ?_, ?_, ?_, ?_, ?_, h.mine, h.apart⟩
  · rw [cell_other (by omega)]; exact h.c0
  · intro i hi; rw [cell_other (by omega)]; exact h.has i hi
  · intro i hi; rw [cell_other (by omega)]; exact h.val i hi
  · intro i hi; rw [cell_other (by omega)]; exact h.safe i hi
  · rw [cell_same h.c25, hv]; rfl
  · rw [cell_other (by omega)]; exact h.c26
  · intro i hi; exact ownsRow_upd (h.row i hi) (upd_set 25 _) (fun g hg => (h.mine i hi g hg).2)
theorem RefAt.below {w w' : World} {p : Nat} {S : Nat → Prop} {V : Nat → Value} {D : DM} (h : RefAt w p S V D) (hb : Below w.heap.size w w') : RefAt w' p S V D :=
  h.upd (T := fun _ => False) (Upd.below hb) (fun _ _ x => x)

theorem RefAt.drew {w : World} {p : Nat} {S : Nat → Prop} {V : Nat → Value} {D : DM} (h : RefAt w p S V D) : RefAt w.drew p S V D :=
  h.upd (T := fun _ => False) ((Upd.refl _ _).drew) (fun _ _ x => x)

theorem RefAt.slice' {w : World} {p : Nat} {S : Nat → Prop} {V : Nat → Value} {D : DM} (h : RefAt w p S V D) (i : Nat) (hi : i < 8) :
    ∃ a c, V i = .slice a (D.f i).b.length c ∧ (D.f i).b.length ≤ c ∧ c ≤ maxLen ∧ (a = none → (D.f i).b.length = 0 ∧ c = 0) := by
  rcases (h.row i hi).2 with ⟨h1, h2⟩ | ⟨g, cap, cur, hv, _, _, h3, h4, _⟩
  · exact ⟨none, 0, by rw [h1, h2], by omega, Nat.zero_le _, fun _ => ⟨h2, rfl⟩⟩
  · exact ⟨_, _, hv, h3, h4, fun x => by cases x⟩

/-- A file's three cells are stored over: the file is gone. -/
theorem RefAt.gone {w : World} {p : Nat} {S : Nat → Prop} {V : Nat → Value} {D : DM} (h : RefAt w p S V D) {i : Nat} (hi : i < 8) :
    ∃ V', RefAt (((w.setCell ⟨p, 1 + i * 3, none⟩ (.bool false)).setCell ⟨p, 1 + i * 3 + 1, none⟩ (.slice none 0 0)).setCell ⟨p, 1 + i * 3 + 2, none⟩ (.int .i64 0)) p S V' (D.set i FM.gone) := by
  have hu : Upd (fun k => k = p) w (((w.setCell ⟨p, 1 + i * 3, none⟩ (.bool false)).setCell ⟨p, 1 + i * 3 + 1, none⟩ (.slice none 0 0)).setCell ⟨p, 1 + i * 3 + 2, none⟩ (.int .i64 0)) :=
    (((Upd.refl (fun k => k = p) w).setCell (p := ⟨p, _, none⟩) (.inl rfl) _).setCell (p := ⟨p, _, none⟩) (.inl rfl) _).setCell (p := ⟨p, _, none⟩) (.inl rfl) _
  have h1 := h.put (w' := ((w.setCell ⟨p, 1 + i * 3, none⟩ (.bool false)).setCell ⟨p, 1 + i * 3 + 1, none⟩ (.slice none 0 0)).setCell ⟨p, 1 + i * 3 + 2, none⟩ (.int .i64 0)) hi FM.gone (.slice none 0 0)
    (hu.mono (fun k _ hk => .inl hk))
    (by
      obtain ⟨cur, e1, e2⟩ := h.blk
      exact ⟨_, setCell_heap_at (setCell_heap_at (setCell_heap_at e1)), by simpa using e2⟩)
    (fun o ho => by rw [cell_other (by omega), cell_other (by omega), cell_other (by omega)])
    (by rw [cell_other (by omega), cell_other (by omega)]; exact cell_same (h.has i hi))
    (by rw [cell_other (by omega)]; exact cell_same (by rw [cell_other (by omega)]; exact h.val i hi))
    (cell_same (by rw [cell_other (by omega), cell_other (by omega)]; exact h.safe i hi))
    (World.ownsRow_nil _ _ _ _)
    (fun g hg => by cases hg)
    (h.ok.set hi (Nat.le_refl _) (fun _ => ⟨rfl, rfl⟩) (by have := h.ok.used; simp [FM.gone]; omega))
  have hS : More S w (((w.setCell ⟨p, 1 + i * 3, none⟩ (.bool false)).setCell ⟨p, 1 + i * 3 + 1, none⟩ (.slice none 0 0)).setCell ⟨p, 1 + i * 3 + 2, none⟩ (.int .i64 0)) = S := by
    funext k
    simp only [More, setCell_size]
    exact propext ⟨fun x => x.elim id (fun y => by omega), .inl⟩
  rw [hS] at h1
  exact ⟨_, h1⟩

theorem RefAt.moved {w : World} {p : Nat} {S : Nat → Prop} {V : Nat → Value} {D : DM} (h : RefAt w p S V D) {i j : Nat} (hi : i < 8) (hj : j < 8) (hij : i ≠ j) (hh : (D.f i).has = true) {a : Option Addr} {c : Nat} (hv : V i = .slice a (D.f i).b.length c) :
    ∃ V', RefAt (moved w p i j a (D.f i).b.length c (D.f i).safe) p S V' ((D.set j (D.f i)).set i FM.gone) ∧ Upd (fun k => k = p) w (moved w p i j a (D.f i).b.length c (D.f i).safe) := by
  have hu : Upd (fun k => k = p) w (Go.Proofs.YteipcbpkgpffjaaDoor.moved w p i j a (D.f i).b.length c (D.f i).safe) :=
    ((((((Upd.refl (fun k => k = p) w).setCell (p := ⟨p, _, none⟩) (.inl rfl) _).setCell (p := ⟨p, _, none⟩) (.inl rfl) _).setCell (p := ⟨p, _, none⟩) (.inl rfl) _).setCell (p := ⟨p, _, none⟩) (.inl rfl) _).setCell (p := ⟨p, _, none⟩) (.inl rfl) _).setCell (p := ⟨p, _, none⟩) (.inl rfl) _
  have hne : i < j ∨ j < i := by omega
  have far : ∀ o, (o < 1 + i * 3 ∨ 1 + i * 3 + 3 ≤ o) → (o < 1 + j * 3 ∨ 1 + j * 3 + 3 ≤ o) → (Go.Proofs.YteipcbpkgpffjaaDoor.moved w p i j a (D.f i).b.length c (D.f i).safe).cell? ⟨p, o, none⟩ = w.cell? ⟨p, o, none⟩ := by
    intro o h1 h2
    unfold Go.Proofs.YteipcbpkgpffjaaDoor.moved
    rw [cell_other (by omega), cell_other (by omega), cell_other (by omega), cell_other (by omega), cell_other (by omega), cell_other (by omega)]
  refine ⟨fun k => if k = i then .slice none 0 0 else if k = j then V i else V k, ⟨⟨h.ok.cap, ?_, ?_, ?_, h.ok.fuse⟩, h.own, ?_, ?_, ?_, ?_, ?_, ?_, ?_, ?_, ?_, ?_, ?_⟩, hu⟩
  · have := DM.moved_used (D := D) hi hj hij; have := h.ok.used; show ((D.set j (D.f i)).set i FM.gone).used 8 ≤ D.cap; omega
  · intro k hk
    by_cases e1 : k = i
    · subst e1; simp [DM.set, FM.gone]
    · by_cases e2 : k = j
      · subst e2; simp only [DM.set, e1, if_true, if_false]; exact h.ok.safe i hi
      · simp only [DM.set, e1, e2, if_false]; exact h.ok.safe k hk
  · intro k hk
    by_cases e1 : k = i
    · subst e1; simp [DM.set, FM.gone]
    · by_cases e2 : k = j
      · subst e2; simp only [DM.set, e1, if_true, if_false]; exact h.ok.none i hi
      · simp only [DM.set, e1, e2, if_false]; exact h.ok.none k hk
  · intro k hk; exact Nat.lt_of_lt_of_le (h.lt k hk) hu.size
  · obtain ⟨cur, e1, e2⟩ := h.blk
    exact ⟨_, setCell_heap_at (setCell_heap_at (setCell_heap_at (setCell_heap_at (setCell_heap_at (setCell_heap_at e1))))), by simpa using e2⟩
  · rw [far 0 (by omega) (by omega)]; exact h.c0
  · intro k hk
    by_cases e1 : k = i
    · subst e1
      simp only [DM.set, if_true, FM.gone]
      unfold Go.Proofs.YteipcbpkgpffjaaDoor.moved
      rw [cell_other (by omega), cell_other (by omega)]
      exact cell_same (by rw [cell_other (by omega), cell_other (by omega), cell_other (by omega)]; exact h.has k hk)
    · by_cases e2 : k = j
      · subst e2
        simp only [DM.set, e1, if_true, if_false]
        unfold Go.Proofs.YteipcbpkgpffjaaDoor.moved
        rw [cell_other (by omega), cell_other (by omega), cell_other (by omega), cell_other (by omega), cell_other (by omega), hh]
        exact cell_same (h.has k hk)
      · simp only [DM.set, e1, e2, if_false]
        rw [far _ (by omega) (by omega)]; exact h.has k hk
  · intro k hk
    by_cases e1 : k = i
    · subst e1
      simp only [if_true]
      unfold Go.Proofs.YteipcbpkgpffjaaDoor.moved
      rw [cell_other (by omega)]
      exact cell_same (by rw [cell_other (by omega), cell_other (by omega), cell_other (by omega), cell_other (by omega)]; exact h.val k hk)
    · by_cases e2 : k = j
      · subst e2
        simp only [e1, if_true, if_false]
        unfold Go.Proofs.YteipcbpkgpffjaaDoor.moved
        rw [cell_other (by omega), cell_other (by omega), cell_other (by omega), cell_other (by omega), hv]
        exact cell_same (by rw [cell_other (by omega)]; exact h.val k hk)
      · simp only [e1, e2, if_false]
        rw [far _ (by omega) (by omega)]; exact h.val k hk
  · intro k hk
    by_cases e1 : k = i
    · subst e1
      simp only [DM.set, if_true, FM.gone]
      unfold Go.Proofs.YteipcbpkgpffjaaDoor.moved
      exact cell_same (by rw [cell_other (by omega), cell_other (by omega), cell_other (by omega), cell_other (by omega), cell_other (by omega)]; exact h.safe k hk)
    · by_cases e2 : k = j
      · subst e2
        simp only [DM.set, e1, if_true, if_false]
        unfold Go.Proofs.YteipcbpkgpffjaaDoor.moved
        rw [cell_other (by omega), cell_other (by omega), cell_other (by omega)]
        exact cell_same (by rw [cell_other (by omega), cell_other (by omega)]; exact h.safe k hk)
      · simp only [DM.set, e1, e2, if_false]
        rw [far _ (by omega) (by omega)]; exact h.safe k hk
  · rw [far 25 (by omega) (by omega)]; exact h.c25
  · rw [far 26 (by omega) (by omega)]; exact h.c26
  · intro k hk
    by_cases e1 : k = i
    · subst e1; simp only [DM.set, if_true, FM.gone]; exact World.ownsRow_nil _ _ _ _
    · by_cases e2 : k = j
      · subst e2; simp only [DM.set, e1, if_true, if_false]
        exact ownsRow_upd (h.row i hi) hu (fun g hg => (h.mine i hi g hg).2)
      · simp only [DM.set, e1, e2, if_false]
        exact ownsRow_upd (h.row k hk) hu (fun g hg => (h.mine k hk g hg).2)
  · intro k hk g
    by_cases e1 : k = i
    · simp only [e1, if_true]; intro hg; cases hg
    · by_cases e2 : k = j
      · have e3 : ¬ j = i := fun x => hij x.symm
        simp only [e2, e3, if_true, if_false]; exact h.mine i hi g
      · simp only [e1, e2, if_false]; exact h.mine k hk g
  · intro k l hk hl hkl g
    by_cases e1 : k = i
    · simp only [e1, if_true]; intro hg; cases hg
    · by_cases e3 : l = i
      · simp only [e3, if_true]; intro _ hg; cases hg
      · simp only [e1, e3, if_false]
        by_cases e2 : k = j
        · by_cases e4 : l = j
          · omega
          · simp only [e2, e4, if_true, if_false]; exact h.apart i l hi hl (fun x => e3 x.symm) g
        · by_cases e4 : l = j
          · simp only [e2, e4, if_true, if_false]; exact h.apart k i hk hi e1 g
          · simp only [e2, e4, if_false]; exact h.apart k l hk hl hkl g
end Go.Proofs.YteipcbpkgpffjaaDoor

namespace Go.Proofs.YteipcbpkgpffjaaDoor
open Go.RowKit
set_option maxRecDepth 100000

set_option maxHeartbeats 400000 in
theorem rnew_in (c : Nat) (w : World) (hc : c ≤ 1048576) :
    Calls Tryd.prog 19 #[.int .i64 (c : Int)] w fun e w' => e = .returned (.pointer (some ⟨w.heap.size, 0, none⟩)) ∧
      (∃ V, RefAt w' w.heap.size (fun k => k = w.heap.size) V (DM.new c)) ∧ Below w.heap.size w w' ∧ w'.heap.size = w.heap.size + 1 := by
  go_enter Tryd.func19, Tryd.ntmps19
  go_wp2
  go_ret
  refine ⟨rfl, ⟨fun _ => .slice none 0 0, ?_⟩, (Below.refl _ _).alloc (Nat.le_refl _) _, by simp⟩
  refine ⟨⟨hc, by rw [DM.new_used]; exact Nat.zero_le _, fun i _ => Nat.le_refl _, fun i _ _ => ⟨rfl, rfl⟩, by simp [DM.new]⟩, rfl, ?_, ⟨_, heap_alloc_new w _, rfl⟩, ?_, ?_, ?_, ?_, ?_, ?_, ?_, ?_, ?_⟩
  · rintro k rfl; simp
  · simp [DM.new]
  · intro i hi; rcases eight hi with rfl | rfl | rfl | rfl | rfl | rfl | rfl | rfl <;> simp [DM.new]
  · intro i hi; rcases eight hi with rfl | rfl | rfl | rfl | rfl | rfl | rfl | rfl <;> simp
  · intro i hi; rcases eight hi with rfl | rfl | rfl | rfl | rfl | rfl | rfl | rfl <;> simp [DM.new]
  · simp [DM.new, DM.fz]
  · simp [DM.new]
  · intro i hi; exact World.ownsRow_nil _ _ _ _
  · intro i hi g hg; cases hg
  · intro i j _ _ _ g hg; cases hg

set_option maxHeartbeats 1000000 in
theorem rroom_in {w : World} {p : Nat} {S : Nat → Prop} {V : Nat → Value} {D : DM} (h : RefAt w p S V D) :
    Calls Tryd.prog 49 #[.pointer (some ⟨p, 0, none⟩)] w fun e w' => e = .returned (.int .i64 ((D.cap : Int) - D.used 8)) ∧ w = w' := by
  have hcap := h.ok.cap
  have hus := h.ok.used
  have hsl := h.slice
  have hc0 := h.c0
  have hval := h.val
  have hmono := fun k => D.used_mono 8 k
  clear h
  generalize D.cap = cap at *
  go_enter Tryd.func49, Tryd.ntmps49
  go_wp2_with fail
  go_loop [3, 4, 9] (fun r _ i => ∃ k : Nat, k ≤ 8 ∧ i = .int .i64 k ∧ r = .int .i64 ((cap : Int) - D.used k)) (fun _ _ i => 8 - (intOf i).toNat)
  case atStart => exact ⟨0, by omega, rfl, by simp [DM.used]⟩
  case round =>
    obtain ⟨k, hk, rfl, rfl⟩ := hrel
    have hm0 := hmono k hk
    by_cases hlt : k < 8
    · have hm1 := hmono (k + 1) (by omega)
      have x1 := hval k hlt
      obtain ⟨a, c, hv⟩ := hsl k hlt
      rw [hv] at x1
      have hk8 : (k : Int) < 8 := by omega
      have hus1 : D.used (k + 1) = D.used k + (D.f k).b.length := rfl
      have HU := Lib.hid hus1
      rw [hus1] at hm1
      clear hus1 hsl hmono hv hc0 hval
      generalize (D.f k).b.length = n at *
      generalize D.used k = u at *
      go_wp2
      go_round
      case rel => exact ⟨k + 1, by omega, by go_num, by rw [HU.out]; go_num⟩
      case measure => simp [intOf]; omega
    · obtain rfl : k = 8 := by omega
      clear hsl hmono hc0 hval
      go_wp2
      go_ret
      exact ⟨rfl, rfl⟩
end Go.Proofs.YteipcbpkgpffjaaDoor

namespace Go.Proofs.YteipcbpkgpffjaaDoor
open Go.RowKit
set_option maxRecDepth 100000

def AfterR (w : World) (p : Nat) (S : Nat → Prop) (r : Int × DM) (e : Ending) (w' : World) : Prop :=
  e = .returned (.int .i64 r.1) ∧ ∃ S' V', RefAt w' p S' V' r.2 ∧ Upd S w w' ∧ ∀ k, S' k → S k ∨ (w.heap.size ≤ k ∧ k < w'.heap.size)

/-- An act of a kind. -/
def DM.act (D : DM) (k A B : Int) (ys : List UInt8) : Int × DM :=
  if k = 0 then D.append A ys else if k = 1 then D.sync A else if k = 2 then D.cut A B else if k = 3 then D.rename A B else if k = 4 then D.remove A else D.lightUp B

set_option maxHeartbeats 1600000 in
theorem ract_lost {w : World} {p : Nat} {S : Nat → Prop} {V : Nat → Value} {D : DM} (h : RefAt w p S V D) (k A B : Int) (v : Value) (hl : D.lost = true) :
    Calls Tryd.prog 21 #[.pointer (some ⟨p, 0, none⟩), .int .i64 k, .int .i64 A, .int .i64 B, v] w (AfterR w p S (6, D)) := by
  have h26 := h.c26
  rw [hl] at h26
  go_enter Tryd.func21, Tryd.ntmps21
  go_wp2
  go_ret
  exact ⟨rfl, S, V, h, Upd.refl _ _, fun k hk => .inl hk⟩

set_option maxHeartbeats 1600000 in
theorem ract_fuse {w : World} {p : Nat} {S : Nat → Prop} {V : Nat → Value} {D : DM} (h : RefAt w p S V D) (A B : Int) (v : Value) (hl : D.lost = false) (hB : B ≤ 9223372036854775807) :
    Calls Tryd.prog 21 #[.pointer (some ⟨p, 0, none⟩), .int .i64 5, .int .i64 A, .int .i64 B, v] w (AfterR w p S (D.lightUp B)) := by
  have h26 := h.c26
  rw [hl] at h26
  by_cases hz : B < 0
  · have e1 : D.lightUp B = (1, D) := by simp [DM.lightUp, hl, hz]
    rw [e1]
    clear e1 hl
    go_enter Tryd.func21, Tryd.ntmps21
    go_wp2
    go_ret
    exact ⟨rfl, S, V, h, Upd.refl _ _, fun k hk => .inl hk⟩
  · obtain ⟨m, rfl⟩ := Int.eq_ofNat_of_zero_le (show 0 ≤ B by omega)
    have e1 : D.lightUp m = (0, { D with lit := true, fuse := m }) := by simp [DM.lightUp, hl]
    rw [e1]
    clear e1 hl
    have h25 := h.c25
    have f25 := h.frozen 25
    go_enter Tryd.func21, Tryd.ntmps21
    go_wp2
    go_ret
    exact ⟨rfl, S, V, h.fused true m _ (by simp) (by omega), (Upd.refl S w).setCell (p := ⟨p, 25, none⟩) (.inl h.own) _, fun k hk => .inl hk⟩

set_option maxHeartbeats 1600000 in
/-- The number of a file is none of 0 to 7. -/
theorem ract_range {w : World} {p : Nat} {S : Nat → Prop} {V : Nat → Value} {D : DM} (h : RefAt w p S V D) (k A B : Int) (v : Value) (hl : D.lost = false) (hk : k ≠ 5) (hA : inRange A = false) :
    Calls Tryd.prog 21 #[.pointer (some ⟨p, 0, none⟩), .int .i64 k, .int .i64 A, .int .i64 B, v] w (AfterR w p S (1, D)) := by
  have h26 := h.c26
  rw [hl] at h26
  have hk5 := beq_eq_false_iff_ne.2 hk
  clear hk hl
  by_cases h0 : A < 0
  · clear hA
    go_enter Tryd.func21, Tryd.ntmps21
    go_wp2
    go_ret
    exact ⟨rfl, S, V, h, Upd.refl _ _, fun k hk => .inl hk⟩
  · have h7 : 7 < A := by simp [inRange] at hA; omega
    clear hA
    go_enter Tryd.func21, Tryd.ntmps21
    go_wp2
    go_ret
    exact ⟨rfl, S, V, h, Upd.refl _ _, fun k hk => .inl hk⟩
end Go.Proofs.YteipcbpkgpffjaaDoor

namespace Go.Proofs.YteipcbpkgpffjaaDoor
open Go.RowKit
set_option maxRecDepth 100000

/-- What the fuse says: spent; so many further; none. -/
theorem DM.fuse_cases (D : DM) : (D.fz = 0 ∧ D.spend = (6, { D with lost := true })) ∨ (∃ n : Nat, 0 < n ∧ D.fz = n ∧ D.lit = true ∧ D.fuse = n ∧ D.spend = (0, { D with lit := true, fuse := n - 1 })) ∨ (D.fz = -1 ∧ D.lit = false ∧ D.spend = (0, D)) := by
  unfold DM.fz DM.spend
  by_cases hl : D.lit = true
  · by_cases hf : D.fuse = 0
    · left; simp [hl, hf]
    · right; left
      refine ⟨D.fuse, by omega, by simp [hl], hl, rfl, ?_⟩
      rw [if_pos hl, if_neg hf]
      rw [show D.lit = true from hl]
  · right; right
    have : D.lit = false := by simpa using hl
    simp [this]

theorem RefAt.synced {w : World} {p : Nat} {S : Nat → Prop} {V : Nat → Value} {D : DM} (h : RefAt w p S V D) {i : Nat} (hi : i < 8) :
    ∃ V', RefAt (w.setCell ⟨p, 1 + i * 3 + 2, none⟩ (.int .i64 ((D.f i).b.length : Int))) p S V' (D.set i { has := (D.f i).has, b := (D.f i).b, safe := (D.f i).b.length }) := by
  have h1 := h.put (w' := w.setCell ⟨p, 1 + i * 3 + 2, none⟩ (.int .i64 ((D.f i).b.length : Int))) hi { has := (D.f i).has, b := (D.f i).b, safe := (D.f i).b.length } (V i)
    ((upd_set (1 + i * 3 + 2) _).mono (fun k _ hk => .inl hk)) (h.blk_set _ _) (fun o ho => by rw [cell_other (by omega)]) (by rw [cell_other (by omega)]; exact h.has i hi) (by rw [cell_other (by omega)]; exact h.val i hi)
    (cell_same (h.safe i hi)) (ownsRow_upd (h.row i hi) (upd_set _ _) (fun g hg => (h.mine i hi g hg).2)) (fun g hg => .inl hg)
    (h.ok.set hi (Nat.le_refl _) (fun hf => by obtain ⟨e1, _⟩ := h.ok.none i hi hf; exact ⟨e1, by simp [e1]⟩) (by have := h.ok.used; simp only []; omega))
  have hS : More S w (w.setCell ⟨p, 1 + i * 3 + 2, none⟩ (.int .i64 ((D.f i).b.length : Int))) = S := by
    funext k
    simp only [More, setCell_size]
    exact propext ⟨fun x => x.elim id (fun y => by omega), .inl⟩
  rw [hS] at h1
  exact ⟨_, h1⟩
theorem RefAt.drewN {w : World} {p : Nat} {S : Nat → Prop} {V : Nat → Value} {D : DM} (h : RefAt w p S V D) (n : Nat) : RefAt (w.drewN n) p S V D :=
  h.upd (T := fun _ => False) ((Upd.refl _ w).drewN n) (fun _ _ x => x)

set_option maxHeartbeats 1600000 in
/-- A file that isn't there. -/
theorem ract_none {w : World} {p : Nat} {S : Nat → Prop} {V : Nat → Value} {D : DM} (h : RefAt w p S V D) (k B : Int) (i : Nat) (v : Value) (hl : D.lost = false) (hk : k = 1 ∨ k = 2 ∨ k = 4) (hi : i < 8) (hh : (D.f i).has = false) :
    Calls Tryd.prog 21 #[.pointer (some ⟨p, 0, none⟩), .int .i64 k, .int .i64 (i : Int), .int .i64 B, v] w (AfterR w p S (7, D)) := by
  have h26 := h.c26
  have x0 := h.has i hi
  rw [hl] at h26
  rw [hh] at x0
  have h7 : ¬ (7 : Int) < i := by omega
  have h8 : (i : Int) < 8 := by omega
  clear hl hh
  rcases hk with rfl | rfl | rfl
  all_goals
    go_enter Tryd.func21, Tryd.ntmps21
    go_wp2
    go_ret
    exact ⟨rfl, S, V, h, Upd.refl _ _, fun k hk => .inl hk⟩

set_option maxHeartbeats 4000000 in
theorem ract_sync {w : World} {p : Nat} {S : Nat → Prop} {V : Nat → Value} {D : DM} (h : RefAt w p S V D) (B : Int) (i : Nat) (v : Value) (hl : D.lost = false) (hi : i < 8) (hh : (D.f i).has = true) :
    Calls Tryd.prog 21 #[.pointer (some ⟨p, 0, none⟩), .int .i64 1, .int .i64 (i : Int), .int .i64 B, v] w (AfterR w p S (D.sync i)) := by
  have h26 := h.c26
  have x0 := h.has i hi
  rw [hl] at h26
  rw [hh] at x0
  have h7 : ¬ (7 : Int) < i := by omega
  have h8 : (i : Int) < 8 := by omega
  have hp : D.prs i = 0 := by
    have : inRange (i : Int) = true := by simp [inRange]; omega
    simp [DM.prs, hl, this, hh]
  have h25 := h.c25
  have f25 := h.frozen 25
  have f26 := h.frozen 26
  obtain ⟨a, c, hv⟩ := h.slice i hi
  have x1 := h.val i hi
  rw [hv] at x1
  have x2 := h.safe i hi
  have f2 := h.frozen (1 + i * 3 + 2)
  rcases D.fuse_cases with ⟨hz, hsp⟩ | ⟨n, hn, hz, hlit, hfu, hsp⟩ | ⟨hz, _, hsp⟩
  · have e1 : D.sync i = (6, { D with lost := true }) := by simp [DM.sync, hp, hsp]
    rw [e1]
    rw [hz] at h25
    clear e1 hp hsp hl hh hz hv
    go_enter Tryd.func21, Tryd.ntmps21
    go_wp2_with fail
    go_quiet (fail)
    go_wp2
    go_ret
    exact ⟨rfl, S, V, (h.drewN nq).lose, ((Upd.refl S w).drewN nq).setCell (p := ⟨p, 26, none⟩) (.inl h.own) _, fun k hk => .inl hk⟩
  · have e1 : D.sync i = (0, ({ D with lit := true, fuse := n - 1 } : DM).set i { has := (D.f i).has, b := (D.f i).b, safe := (D.f i).b.length }) := by
      simp only [DM.sync, hp, hsp, if_true, Int.toNat_natCast]
    rw [e1]
    rw [hz] at h25
    have hn0 : ((n : Int) == 0) = false := by simp; omega
    have hn1 : (0 : Int) < n := by omega
    have hn9 : (n : Int) ≤ 9223372036854775807 := by have := h.ok.fuse; omega
    clear e1 hp hsp hl hh hz hv
    go_enter Tryd.func21, Tryd.ntmps21
    go_wp2_with fail
    go_quiet (fail)
    go_wp2_with fail
    go_region
    go_wp2
    go_ret
    have hfus := (h.drewN nq).fused true (n - 1) ((n : Int) - 1) (by simp; omega) (by omega)
    obtain ⟨V2, h2⟩ := hfus.synced hi
    exact ⟨rfl, S, V2, h2.drew, ((((Upd.refl S w).drewN nq).setCell (p := ⟨p, 25, none⟩) (.inl h.own) _).setCell (p := ⟨p, _, none⟩) (.inl h.own) _).drew, fun k hk => .inl hk⟩
  · have e1 : D.sync i = (0, D.set i { has := (D.f i).has, b := (D.f i).b, safe := (D.f i).b.length }) := by
      simp only [DM.sync, hp, hsp, if_true, Int.toNat_natCast]
    rw [e1]
    rw [hz] at h25
    clear e1 hp hsp hl hh hz hv
    go_enter Tryd.func21, Tryd.ntmps21
    go_wp2_with fail
    go_quiet (fail)
    go_wp2_with fail
    go_region
    go_wp2
    go_ret
    obtain ⟨V2, h2⟩ := (h.drewN nq).synced hi
    exact ⟨rfl, S, V2, h2.drew, (((Upd.refl S w).drewN nq).setCell (p := ⟨p, _, none⟩) (.inl h.own) _).drew, fun k hk => .inl hk⟩

set_option maxHeartbeats 4000000 in
theorem ract_remove {w : World} {p : Nat} {S : Nat → Prop} {V : Nat → Value} {D : DM} (h : RefAt w p S V D) (B : Int) (i : Nat) (v : Value) (hl : D.lost = false) (hi : i < 8) (hh : (D.f i).has = true) :
    Calls Tryd.prog 21 #[.pointer (some ⟨p, 0, none⟩), .int .i64 4, .int .i64 (i : Int), .int .i64 B, v] w (AfterR w p S (D.remove i)) := by
  have h26 := h.c26
  have x0 := h.has i hi
  rw [hl] at h26
  rw [hh] at x0
  have h7 : ¬ (7 : Int) < i := by omega
  have h8 : (i : Int) < 8 := by omega
  have hp : D.prs i = 0 := by
    have : inRange (i : Int) = true := by simp [inRange]; omega
    simp [DM.prs, hl, this, hh]
  have h25 := h.c25
  have f25 := h.frozen 25
  have f26 := h.frozen 26
  obtain ⟨a, c, hv⟩ := h.slice i hi
  have x1 := h.val i hi
  rw [hv] at x1
  have x2 := h.safe i hi
  have f0 := h.frozen (1 + i * 3)
  have f1 := h.frozen (1 + i * 3 + 1)
  have f2 := h.frozen (1 + i * 3 + 2)
  rcases D.fuse_cases with ⟨hz, hsp⟩ | ⟨n, hn, hz, hlit, hfu, hsp⟩ | ⟨hz, _, hsp⟩
  · have e1 : D.remove i = (6, { D with lost := true }) := by simp [DM.remove, hp, hsp]
    rw [e1]
    rw [hz] at h25
    clear e1 hp hsp hl hh hz hv
    go_enter Tryd.func21, Tryd.ntmps21
    go_wp2_with fail
    go_quiet (fail)
    go_wp2
    go_ret
    exact ⟨rfl, S, V, (h.drewN nq).lose, ((Upd.refl S w).drewN nq).setCell (p := ⟨p, 26, none⟩) (.inl h.own) _, fun k hk => .inl hk⟩
  · have e1 : D.remove i = (0, ({ D with lit := true, fuse := n - 1 } : DM).set i FM.gone) := by
      simp only [DM.remove, hp, hsp, if_true, Int.toNat_natCast]
    rw [e1]
    rw [hz] at h25
    have hn0 : ((n : Int) == 0) = false := by simp; omega
    have hn1 : (0 : Int) < n := by omega
    have hn9 : (n : Int) ≤ 9223372036854775807 := by have := h.ok.fuse; omega
    clear e1 hp hsp hl hh hz hv
    go_enter Tryd.func21, Tryd.ntmps21
    go_wp2_with fail
    go_quiet (fail)
    go_wp2
    go_ret
    have hfus := (h.drewN nq).fused true (n - 1) ((n : Int) - 1) (by simp; omega) (by omega)
    obtain ⟨V2, h2⟩ := hfus.gone hi
    exact ⟨rfl, S, V2, h2, (((((Upd.refl S w).drewN nq).setCell (p := ⟨p, 25, none⟩) (.inl h.own) _).setCell (p := ⟨p, _, none⟩) (.inl h.own) _).setCell (p := ⟨p, _, none⟩) (.inl h.own) _).setCell (p := ⟨p, _, none⟩) (.inl h.own) _, fun k hk => .inl hk⟩
  · have e1 : D.remove i = (0, D.set i FM.gone) := by
      simp only [DM.remove, hp, hsp, if_true, Int.toNat_natCast]
    rw [e1]
    rw [hz] at h25
    clear e1 hp hsp hl hh hz hv
    go_enter Tryd.func21, Tryd.ntmps21
    go_wp2_with fail
    go_quiet (fail)
    go_wp2
    go_ret
    obtain ⟨V2, h2⟩ := (h.drewN nq).gone hi
    exact ⟨rfl, S, V2, h2, ((((Upd.refl S w).drewN nq).setCell (p := ⟨p, _, none⟩) (.inl h.own) _).setCell (p := ⟨p, _, none⟩) (.inl h.own) _).setCell (p := ⟨p, _, none⟩) (.inl h.own) _, fun k hk => .inl hk⟩
end Go.Proofs.YteipcbpkgpffjaaDoor

namespace Go.Proofs.YteipcbpkgpffjaaDoor
open Go.RowKit
set_option maxRecDepth 100000

/-- A new, empty slice of bytes, behind a draw. -/
theorem own_new (W : World) : ((W.alloc (.cells #[] 5)).drew).ownsRow W.heap.size 5 1 (.slice (some ⟨W.heap.size, 0, none⟩) 0 0) 0 (([] : List UInt8).map bval) :=
  World.ownsRow_made W #[] 0 (Nat.le_refl _) (Nat.zero_le _) rfl
theorem below_new {W w1 : World} (hg : ((W.alloc (.cells #[] 5)).drew).grownBy w1 (Value.slice (some ⟨W.heap.size, 0, none⟩) 0 0).ownBlock) : Below W.heap.size W w1 :=
  ((Below.refl _ W).alloc (Nat.le_refl _) _).drew.grown hg (by simp) (fun k hk => by simp [Value.ownBlock] at hk; omega)
theorem bytes_new {W : World} {a : Option Addr} {xs : List UInt8} (h : IsBytes W a xs) : IsBytes ((W.alloc (.cells #[] 5)).drew) a xs :=
  h.upd (S := fun _ => False) (((Upd.refl _ W).alloc _).drew) (fun _ _ _ x => x)

theorem RefAt.bytes {w : World} {p : Nat} {S : Nat → Prop} {V : Nat → Value} {D : DM} (h : RefAt w p S V D) (i : Nat) (hi : i < 8) :
    ∃ a c, V i = .slice a (D.f i).b.length c ∧ IsBytes w a (D.f i).b ∧ (D.f i).b.length ≤ c ∧ c ≤ maxLen ∧ (a = none → c = 0) := by
  obtain ⟨a, c, hv⟩ := h.slice i hi
  have hr := h.row i hi
  rw [hv] at hr
  obtain ⟨h1, _, h2, h3, h4⟩ := bytes_of_row hr
  exact ⟨a, c, hv, h1, h2, h3, h4⟩

/-- A file is stored whole: its bytes lie in a block that is new since W. -/
theorem RefAt.filed {W w1 : World} {p : Nat} {S : Nat → Prop} {V : Nat → Value} {D : DM} (h : RefAt W p S V D) (hb : Below W.heap.size W w1) {i : Nat} (hi : i < 8) {zs : List UInt8} {s n : Nat} {a' : Option Addr} {c' : Nat} (hn : zs.length = n)
    (hr : w1.ownsRow W.heap.size 5 1 (.slice a' n c') n (zs.map bval)) (hs : s ≤ n) (hu : D.used 8 + n ≤ D.cap + (D.f i).b.length) :
    ∃ V', RefAt (((w1.setCell ⟨p, 1 + i * 3, none⟩ (.bool true)).setCell ⟨p, 1 + i * 3 + 1, none⟩ (.slice a' n c')).setCell ⟨p, 1 + i * 3 + 2, none⟩ (.int .i64 (s : Int))) p (More S W w1) V' (D.set i { has := true, b := zs, safe := s }) ∧
      Upd S W (((w1.setCell ⟨p, 1 + i * 3, none⟩ (.bool true)).setCell ⟨p, 1 + i * 3 + 1, none⟩ (.slice a' n c')).setCell ⟨p, 1 + i * 3 + 2, none⟩ (.int .i64 (s : Int))) := by
  subst hn
  have hp := h.lt p h.own
  have h1 := h.below hb
  have e := fun o => hb.cell (p := ⟨p, o, none⟩) hp
  have hu1 : Upd (fun k => k = p) W (((w1.setCell ⟨p, 1 + i * 3, none⟩ (.bool true)).setCell ⟨p, 1 + i * 3 + 1, none⟩ (.slice a' zs.length c')).setCell ⟨p, 1 + i * 3 + 2, none⟩ (.int .i64 (s : Int))) :=
    (((below_upd (fun k => k = p) hb).setCell (p := ⟨p, _, none⟩) (.inl rfl) _).setCell (p := ⟨p, _, none⟩) (.inl rfl) _).setCell (p := ⟨p, _, none⟩) (.inl rfl) _
  have h2 := h.put (w' := ((w1.setCell ⟨p, 1 + i * 3, none⟩ (.bool true)).setCell ⟨p, 1 + i * 3 + 1, none⟩ (.slice a' zs.length c')).setCell ⟨p, 1 + i * 3 + 2, none⟩ (.int .i64 (s : Int))) hi { has := true, b := zs, safe := s } (.slice a' zs.length c')
    (hu1.mono (fun k _ hk => .inl hk))
    (by
      obtain ⟨cur, e1, e2⟩ := h1.blk
      exact ⟨_, setCell_heap_at (setCell_heap_at (setCell_heap_at e1)), by simpa using e2⟩)
    (fun o ho => by rw [cell_other (by omega), cell_other (by omega), cell_other (by omega), e])
    (by rw [cell_other (by omega), cell_other (by omega)]; exact cell_same (h1.has i hi))
    (by rw [cell_other (by omega)]; exact cell_same (by rw [cell_other (by omega)]; exact h1.val i hi))
    (cell_same (by rw [cell_other (by omega), cell_other (by omega)]; exact h1.safe i hi))
    (by
      have far : ∀ g, (Value.slice a' zs.length c').ownBlock = some g → ¬ g = p := fun g hg => by have := (hr.lt g hg).1; omega
      have h3 := ownsRow_upd (ownsRow_upd (ownsRow_upd hr (upd_set (p := p) (1 + i * 3) (.bool true)) far) (upd_set (p := p) (1 + i * 3 + 1) (.slice a' zs.length c')) far) (upd_set (p := p) (1 + i * 3 + 2) (.int .i64 (s : Int))) far
      obtain ⟨h4, h5⟩ := h3
      exact ⟨h4, h5.elim .inl fun ⟨g, cap, cur, hv, _, r⟩ => .inr ⟨g, cap, cur, hv, Nat.zero_le _, r⟩⟩)
    (fun g hg => .inr (hr.lt g hg).1)
    (h.ok.set hi hs (fun x => by cases x) (by omega))
  have hS : More S W (((w1.setCell ⟨p, 1 + i * 3, none⟩ (.bool true)).setCell ⟨p, 1 + i * 3 + 1, none⟩ (.slice a' zs.length c')).setCell ⟨p, 1 + i * 3 + 2, none⟩ (.int .i64 (s : Int))) = More S W w1 := by
    funext k; simp only [More, setCell_size]
  rw [hS] at h2
  exact ⟨_, h2, hu1.mono (fun k _ hk => by rw [hk]; exact h.own)⟩

set_option maxHeartbeats 4000000 in
theorem ract_cut {w : World} {p : Nat} {S : Nat → Prop} {V : Nat → Value} {D : DM} (h : RefAt w p S V D) (B : Int) (i : Nat) (v : Value) (hl : D.lost = false) (hi : i < 8) (hh : (D.f i).has = true) :
    Calls Tryd.prog 21 #[.pointer (some ⟨p, 0, none⟩), .int .i64 2, .int .i64 (i : Int), .int .i64 B, v] w (AfterR w p S (D.cut i B)) := by
  have h26 := h.c26
  have x0 := h.has i hi
  rw [hl] at h26
  rw [hh] at x0
  have h7 : ¬ (7 : Int) < i := by omega
  have h8 : (i : Int) < 8 := by omega
  have hp : D.prs i = 0 := by
    have : inRange (i : Int) = true := by simp [inRange]; omega
    simp [DM.prs, hl, this, hh]
  have h25 := h.c25
  have f25 := h.frozen 25
  have f26 := h.frozen 26
  obtain ⟨a, c, hv, hby, hc1, hc2, hnc⟩ := h.bytes i hi
  have x1 := h.val i hi
  rw [hv] at x1
  have x2 := h.safe i hi
  have hlen : (D.f i).b.length ≤ 1048576 := by have := D.set_len i hi; have := h.ok.used; have := h.ok.cap; omega
  unfold maxLen at hc2
  by_cases hr : B < 0 ∨ ((D.f i).b.length : Int) < B
  · have e1 : D.cut i B = (1, D) := by simp only [DM.cut, hp, if_true, Int.toNat_natCast, hr]
    rw [e1]
    clear e1 hp hl hh hv
    by_cases h0 : B < 0
    · clear hr
      go_enter Tryd.func21, Tryd.ntmps21
      go_wp2
      go_ret
      exact ⟨rfl, S, V, h, Upd.refl _ _, fun k hk => .inl hk⟩
    · have h1 : ((D.f i).b.length : Int) < B := hr.resolve_left h0
      clear hr
      go_enter Tryd.func21, Tryd.ntmps21
      go_wp2
      go_ret
      exact ⟨rfl, S, V, h, Upd.refl _ _, fun k hk => .inl hk⟩
  · have h0 : ¬ B < 0 := fun x => hr (.inl x)
    have h1 : ¬ ((D.f i).b.length : Int) < B := fun x => hr (.inr x)
    obtain ⟨m, rfl⟩ := Int.eq_ofNat_of_zero_le (show 0 ≤ B by omega)
    rcases D.fuse_cases with ⟨hz, hsp⟩ | ⟨n, hn, hz, hlit, hfu, hsp⟩ | ⟨hz, _, hsp⟩
    · have e1 : D.cut i m = (6, { D with lost := true }) := by
        simp only [DM.cut, hp, if_true, Int.toNat_natCast, hr, if_false, hsp]; rfl
      rw [e1]
      rw [hz] at h25
      clear e1 hp hsp hl hh hz hv hr
      go_enter Tryd.func21, Tryd.ntmps21
      go_wp2_with fail
      go_quiet (fail)
      go_wp2
      go_ret
      exact ⟨rfl, S, V, (h.drewN nq).lose, ((Upd.refl S w).drewN nq).setCell (p := ⟨p, 26, none⟩) (.inl h.own) _, fun k hk => .inl hk⟩
    · have e1 : D.cut i m = (0, ({ D with lit := true, fuse := n - 1 } : DM).set i { has := true, b := (D.f i).b.take m, safe := m }) := by
        simp only [DM.cut, hp, if_true, Int.toNat_natCast, hr, if_false, hsp, hh]
      rw [e1]
      rw [hz] at h25
      have hn0 : ((n : Int) == 0) = false := by simp; omega
      have hn1 : (0 : Int) < n := by omega
      have hn9 : (n : Int) ≤ 9223372036854775807 := by have := h.ok.fuse; omega
      have hmc : m ≤ c := by omega
      have hmi : (m : Int) ≤ c := by omega
      have htl : ((D.f i).b.take m).length = m := by simp; omega
      have HTL := Lib.hid htl
      clear e1 hp hsp hl hh hz hv hr htl
      go_enter Tryd.func21, Tryd.ntmps21
      go_wp2_with fail
      go_quiet (fail)
      go_wp2_with fail
      have hW := (h.drewN nq).fused true (n - 1) ((n : Int) - 1) (by simp; omega) (by omega)
      have uW : Upd S w ((w.drewN nq).setCell ⟨p, 25, none⟩ (.int .i64 ((n : Int) - 1))) := ((Upd.refl S w).drewN nq).setCell (p := ⟨p, 25, none⟩) (.inl h.own) _
      have hbW : IsBytes ((w.drewN nq).setCell ⟨p, 25, none⟩ (.int .i64 ((n : Int) - 1))) a (D.f i).b := by
        obtain ⟨a2, c2, hv2, hby2, _⟩ := hW.bytes i hi
        have e2 := hW.val i hi
        rw [cell_other (by omega), show (w.drewN nq).cell? ⟨p, 1 + i * 3 + 1, none⟩ = w.cell? ⟨p, 1 + i * 3 + 1, none⟩ from rfl, x1, hv2] at e2
        injection e2 with e2
        injection e2 with e2 _ _
        rw [e2]; exact hby2
      have y1 : ((w.drewN nq).setCell ⟨p, 25, none⟩ (.int .i64 ((n : Int) - 1))).cell? ⟨p, 1 + i * 3 + 1, none⟩ = some (.slice a (D.f i).b.length c) := by rw [cell_other (by omega)]; exact x1
      have sW : ((w.drewN nq).setCell ⟨p, 25, none⟩ (.int .i64 ((n : Int) - 1))).heap.size = w.heap.size := by rw [setCell_size]; rfl
      clear x0 x1 x2 h25 h26 f25 f26
      generalize (w.drewN nq).setCell ⟨p, 25, none⟩ (.int .i64 ((n : Int) - 1)) = W at *
      have SW := Lib.hid sW
      clear sW
      have hpW := hW.lt p hW.own
      have yA : (W.alloc (.cells #[] 5)).cell? ⟨p, 1 + i * 3 + 1, none⟩ = some (.slice a (D.f i).b.length c) := by rw [World.cell?_alloc_past _ _ _ hpW]; exact y1
      have happ : 0 + m ≤ 140737488355328 := by omega
      have hbase : W.heap.size ≤ ((W.alloc (.cells #[] 5)).drew).heap.size := by simp
      have hbN := (bytes_new hbW).take m
      go_region_law
        ((refine step_append_bytes (by rfl) _ _ 22 (by rfl) W.heap.size 5 Tryd.underlying22 u8_info (.slice (some ⟨W.heap.size, 0, none⟩) 0 0) 0 [] (by kernel_rfl) (own_new W) a ((D.f i).b.take m) m HTL.out c (by kernel_rfl) hbN hnc happ hbase ?_; intro a' c' w1 hr1 hg1 hn1; have hb1 := below_new hg1; have hd1 := hW.below hb1; have y0 := hd1.has i hi; have y1' := (hb1.cell (p := ⟨p, 1 + i * 3 + 1, none⟩) hpW).trans y1; have y2 := hd1.safe i hi; have f0 := hd1.frozen (1 + i * 3); have f1 := hd1.frozen (1 + i * 3 + 1); have f2 := hd1.frozen (1 + i * 3 + 2)))
      all_goals
        go_wp2
        go_ret
        rw [Nat.zero_add] at hr1
        obtain ⟨V2, h2, u2⟩ := hW.filed hb1 hi (zs := (D.f i).b.take m) (n := m) HTL.out (by simpa using hr1) (Nat.le_refl _) (by have h9 := hW.ok.used; exact Nat.add_le_add h9 (by show m ≤ (D.f i).b.length; omega))
        exact ⟨rfl, _, V2, by simpa using h2, by simpa using uW.trans u2 (fun _ _ x => x), fun k hk => by rw [← SW.out]; exact More_le (by simp) k hk⟩
    · have e1 : D.cut i m = (0, D.set i { has := true, b := (D.f i).b.take m, safe := m }) := by
        simp only [DM.cut, hp, if_true, Int.toNat_natCast, hr, if_false, hsp, hh]
      rw [e1]
      rw [hz] at h25
      have hmc : m ≤ c := by omega
      have hmi : (m : Int) ≤ c := by omega
      have htl : ((D.f i).b.take m).length = m := by simp; omega
      have HTL := Lib.hid htl
      clear e1 hp hsp hl hh hz hv hr htl
      go_enter Tryd.func21, Tryd.ntmps21
      go_wp2_with fail
      go_quiet (fail)
      have hW := h.drewN nq
      have hbW : IsBytes (w.drewN nq) a (D.f i).b := hby.upd (S := fun _ => False) ((Upd.refl _ w).drewN nq) (fun _ _ _ x => x)
      have y1 : (w.drewN nq).cell? ⟨p, 1 + i * 3 + 1, none⟩ = some (.slice a (D.f i).b.length c) := x1
      have uW : Upd S w (w.drewN nq) := (Upd.refl S w).drewN nq
      have sW : (w.drewN nq).heap.size = w.heap.size := rfl
      have z25 : (w.drewN nq).cell? ⟨p, 25, none⟩ = some (.int .i64 (-1)) := h25
      clear x0 x1 x2 h25 h26 f25 f26
      generalize w.drewN nq = W at *
      go_wp2_with fail
      have SW := Lib.hid sW
      clear sW
      have hpW := hW.lt p hW.own
      have yA : (W.alloc (.cells #[] 5)).cell? ⟨p, 1 + i * 3 + 1, none⟩ = some (.slice a (D.f i).b.length c) := by rw [World.cell?_alloc_past _ _ _ hpW]; exact y1
      have happ : 0 + m ≤ 140737488355328 := by omega
      have hbase : W.heap.size ≤ ((W.alloc (.cells #[] 5)).drew).heap.size := by simp
      have hbN := (bytes_new hbW).take m
      go_region_law
        ((refine step_append_bytes (by rfl) _ _ 22 (by rfl) W.heap.size 5 Tryd.underlying22 u8_info (.slice (some ⟨W.heap.size, 0, none⟩) 0 0) 0 [] (by kernel_rfl) (own_new W) a ((D.f i).b.take m) m HTL.out c (by kernel_rfl) hbN hnc happ hbase ?_; intro a' c' w1 hr1 hg1 hn1; have hb1 := below_new hg1; have hd1 := hW.below hb1; have y0 := hd1.has i hi; have y1' := (hb1.cell (p := ⟨p, 1 + i * 3 + 1, none⟩) hpW).trans y1; have y2 := hd1.safe i hi; have f0 := hd1.frozen (1 + i * 3); have f1 := hd1.frozen (1 + i * 3 + 1); have f2 := hd1.frozen (1 + i * 3 + 2)))
      all_goals
        go_wp2
        go_ret
        rw [Nat.zero_add] at hr1
        obtain ⟨V2, h2, u2⟩ := hW.filed hb1 hi (zs := (D.f i).b.take m) (n := m) HTL.out (by simpa using hr1) (Nat.le_refl _) (by have h9 := hW.ok.used; exact Nat.add_le_add h9 (by show m ≤ (D.f i).b.length; omega))
        exact ⟨rfl, _, V2, by simpa using h2, by simpa using uW.trans u2 (fun _ _ x => x), fun k hk => by rw [← SW.out]; exact More_le (by simp) k hk⟩
end Go.Proofs.YteipcbpkgpffjaaDoor

namespace Go.Proofs.YteipcbpkgpffjaaDoor
open Go.RowKit
set_option maxRecDepth 100000
set_option linter.unusedVariables false

/-- The first append onto a new, empty slice. -/
theorem step_append_new {P : Program} {W : World} {ops : Array Oper} {o : Oper} {a : Act} {K : Act → World → Prop} {Q : Exit → Act → World → Prop} {E : Prop} (hgd : o.guard = none) (s x : Operand) (t : TypeId)
    (ho : o.op = .call { callee := .builtin .append, args := #[s, x], argTypes := #[t, t] })
    (ht : P.underlying t = some (.slice 5)) (hi : (P.info? 5).map (fun i => (i.zero, i.size, i.bytes)) = some (some (.int .u8 0), 1, 1))
    (hs : a.eval s = .slice (some ⟨W.heap.size, 0, none⟩) 0 0)
    (ad : Option Addr) (ys : List UInt8) (m : Nat) (hm : ys.length = m) (c : Nat) (hx : a.eval x = .slice ad m c) (hy : IsBytes W ad ys) (hnc : ad = none → c = 0) (hb : m ≤ 140737488355328)
    (h : ∀ a' c' w', w'.ownsRow W.heap.size 5 1 (.slice a' m c') m (ys.map bval) → Below W.heap.size W w' → K (a.put o.dst (.slice a' m c')) w') :
    if Region.wanted o (yielded ops a.tmps) = true then Oper.wp P o a ((W.alloc (.cells #[] 5)).drew) K Q else E := by
  refine step_append_bytes hgd s x t ho W.heap.size 5 ht hi (.slice (some ⟨W.heap.size, 0, none⟩) 0 0) 0 [] hs (own_new W) ad ys m hm c hx (bytes_new hy) hnc (by omega) (by simp) ?_
  intro a' c' w' h1 h2 _
  rw [Nat.zero_add] at h1 ⊢
  exact h a' c' w' (by simpa using h1) (below_new h2)
/-- The second append, onto what the first made. -/
theorem step_append_next {P : Program} {W w1 : World} {ops : Array Oper} {o : Oper} {a : Act} {K : Act → World → Prop} {Q : Exit → Act → World → Prop} {E : Prop} (hgd : o.guard = none) (s x : Operand) (t : TypeId)
    (ho : o.op = .call { callee := .builtin .append, args := #[s, x], argTypes := #[t, t] })
    (ht : P.underlying t = some (.slice 5)) (hi : (P.info? 5).map (fun i => (i.zero, i.size, i.bytes)) = some (some (.int .u8 0), 1, 1))
    (a1 : Option Addr) (n c1 : Nat) (xs : List UInt8) (hs : a.eval s = .slice a1 n c1) (hr : w1.ownsRow W.heap.size 5 1 (.slice a1 n c1) n (xs.map bval)) (hW : Below W.heap.size W w1)
    (ad : Option Addr) (ys : List UInt8) (m : Nat) (hm : ys.length = m) (c : Nat) (hx : a.eval x = .slice ad m c) (hy : IsBytes W ad ys) (hnc : ad = none → c = 0) (hb : n + m ≤ 140737488355328)
    (h : ∀ a' c' w', w'.ownsRow W.heap.size 5 1 (.slice a' (n + m) c') (n + m) ((xs ++ ys).map bval) → Below W.heap.size W w' → K (a.put o.dst (.slice a' (n + m) c')) w') :
    if Region.wanted o (yielded ops a.tmps) = true then Oper.wp P o a w1 K Q else E := by
  refine step_append_bytes hgd s x t ho W.heap.size 5 ht hi (.slice a1 n c1) n xs hs hr ad ys m hm c hx (hy.upd (below_upd (fun _ => False) hW) (fun _ _ _ x => x)) hnc hb hW.size ?_
  intro a' c' w' h1 h2 _
  exact h a' c' w' h1 (hW.grown h2 hW.size (fun k hk => (hr.lt k hk).1))

set_option maxHeartbeats 8000000 in
theorem ract_append_full {w : World} {p : Nat} {S : Nat → Prop} {V : Nat → Value} {D : DM} (h : RefAt w p S V D) (B : Int) (i : Nat) (ad : Option Addr) (ys : List UInt8) (cy : Nat) (hl : D.lost = false) (hi : i < 8)
    (hyc : ys.length ≤ cy) (hycm : cy ≤ maxLen) (hyb : IsBytes w ad ys) (hyn : ad = none → cy = 0) (hys : ys ≠ [] → ∀ x, ad = some x → ¬ S x.block) (hroom : D.cap < D.used 8 + ys.length) :
    Calls Tryd.prog 21 #[.pointer (some ⟨p, 0, none⟩), .int .i64 0, .int .i64 (i : Int), .int .i64 B, .slice ad ys.length cy] w (AfterR w p S (5, D)) := by
  have h26 := h.c26
  rw [hl] at h26
  have h7 : ¬ (7 : Int) < i := by omega
  have h8 : (i : Int) < 8 := by omega
  have h25 := h.c25
  have f25 := h.frozen 25
  have f26 := h.frozen 26
  have hcap := h.ok.cap
  have hlen := D.set_len i hi
  unfold maxLen at hycm
  have hgt : (D.cap : Int) - D.used 8 < ys.length := by omega
  clear hl
  go_enter Tryd.func21, Tryd.ntmps21
  go_wp2_with fail
  refine (rroom_in h).mono ?_
  rintro e w1 ⟨rfl, rfl⟩
  go_wp2
  go_ret
  exact ⟨rfl, S, V, h, Upd.refl _ _, fun k hk => .inl hk⟩
end Go.Proofs.YteipcbpkgpffjaaDoor

namespace Go.Proofs.YteipcbpkgpffjaaDoor
open Go.RowKit
set_option maxRecDepth 100000
set_option linter.unusedVariables false

set_option maxHeartbeats 8000000 in
theorem ract_append_unlit {w : World} {p : Nat} {S : Nat → Prop} {V : Nat → Value} {D : DM} (h : RefAt w p S V D) (B : Int) (i : Nat) (ad : Option Addr) (ys : List UInt8) (cy : Nat) (hl : D.lost = false) (hi : i < 8)
    (hyc : ys.length ≤ cy) (hycm : cy ≤ maxLen) (hyb : IsBytes w ad ys) (hyn : ad = none → cy = 0) (hys : ys ≠ [] → ∀ x, ad = some x → ¬ S x.block) (hfit : D.used 8 + ys.length ≤ D.cap) (hz : D.fz = -1) :
    Calls Tryd.prog 21 #[.pointer (some ⟨p, 0, none⟩), .int .i64 0, .int .i64 (i : Int), .int .i64 B, .slice ad ys.length cy] w (AfterR w p S (0, D.set i { has := true, b := (D.f i).b ++ ys, safe := (D.f i).safe })) := by
  have h26 := h.c26
  rw [hl] at h26
  have h7 : ¬ (7 : Int) < i := by omega
  have h8 : (i : Int) < 8 := by omega
  have h25 := h.c25
  have f25 := h.frozen 25
  have f26 := h.frozen 26
  have hcap := h.ok.cap
  have hlen := D.set_len i hi
  unfold maxLen at hycm
  have hle : ¬ ((D.cap : Int) - D.used 8 < ys.length) := by omega
  obtain ⟨a, c, hv, hby, hc1, hc2, hnc⟩ := h.bytes i hi
  have x1 := h.val i hi
  rw [hv] at x1
  have x2 := h.safe i hi
  have hsl := h.ok.safe i hi
  unfold maxLen at hc2
  rw [hz] at h25
  clear hz
  clear hl hv
  go_enter Tryd.func21, Tryd.ntmps21
  go_wp2_with fail
  refine (rroom_in h).mono ?_
  rintro e w1 ⟨rfl, rfl⟩
  go_wp2_with fail
  go_quiet (fail)
  have hW := h.drewN nq
  have uW : Upd S w (w.drewN nq) := (Upd.refl S w).drewN nq
  have hvW : (w.drewN nq).cell? ⟨p, 1 + i * 3 + 1, none⟩ = some (.slice a (D.f i).b.length c) := by exact x1
  have y2 : (w.drewN nq).cell? ⟨p, 1 + i * 3 + 2, none⟩ = some (.int .i64 ((D.f i).safe : Int)) := by exact x2
  have hyW : IsBytes (w.drewN nq) ad ys := hyb.upd uW hys
  have hbW : IsBytes (w.drewN nq) a (D.f i).b := hby.upd (S := fun _ => False) ((Upd.refl _ w).drewN nq) (fun _ _ _ x => x)
  have y1 := hvW
  have sW : (w.drewN nq).heap.size = w.heap.size := by rfl
  have z25 : (w.drewN nq).cell? ⟨p, 25, none⟩ = some (.int .i64 (-1)) := h25
  clear x1 x2 h25 h26 f25 f26 hvW
  generalize w.drewN nq = W at *
  go_wp2_with fail
  have SW := Lib.hid sW
  clear sW
  have hpW := hW.lt p hW.own
  have yA : (W.alloc (.cells #[] 5)).cell? ⟨p, 1 + i * 3 + 1, none⟩ = some (.slice a (D.f i).b.length c) := by rw [World.cell?_alloc_past _ _ _ hpW]; exact y1
  have yB : (W.alloc (.cells #[] 5)).cell? ⟨p, 1 + i * 3 + 2, none⟩ = some (.int .i64 ((D.f i).safe : Int)) := by rw [World.cell?_alloc_past _ _ _ hpW]; exact y2
  have happ1 : (D.f i).b.length ≤ 140737488355328 := by omega
  have happ2 : (D.f i).b.length + ys.length ≤ 140737488355328 := by omega
  go_region_law (first
    | (refine step_append_new (by rfl) _ _ 22 (by rfl) Tryd.underlying22 u8_info (by kernel_rfl) a (D.f i).b (D.f i).b.length rfl c (by kernel_rfl) hbW hnc happ1 ?_; intro a' c' w1 hr1 hb1; have hd1 := hW.below hb1; have v2 := hd1.safe i hi)
    | (refine step_append_next (W := W) (by rfl) _ _ 22 (by rfl) Tryd.underlying22 u8_info a' (D.f i).b.length c' (D.f i).b (by kernel_rfl) hr1 hb1 ad ys ys.length rfl cy (by kernel_rfl) hyW hyn happ2 ?_; intro a2 c2' w2 hr2 hb2; have hd2 := hW.below hb2; have u2 := hd2.safe i hi; have z0 := hd2.has i hi; have z1 := hd2.val i hi; have f0 := hd2.frozen (1 + i * 3); have f1 := hd2.frozen (1 + i * 3 + 1); have f2 := hd2.frozen (1 + i * 3 + 2)))
  all_goals
    go_wp2
    go_ret
    obtain ⟨V2, h2, uu2⟩ := hW.filed hb2 hi (zs := (D.f i).b ++ ys) (n := (D.f i).b.length + ys.length) (by simp) hr2 (Nat.le_trans hsl (Nat.le_add_right _ _)) (by have h9 : D.used 8 + ys.length ≤ D.cap := hfit; show D.used 8 + ((D.f i).b.length + ys.length) ≤ D.cap + (D.f i).b.length; omega)
    exact ⟨rfl, _, V2, by simpa using h2, by simpa using uW.trans uu2 (fun _ _ x => x), fun k hk => by rw [← SW.out]; exact More_le (by simp) k hk⟩
end Go.Proofs.YteipcbpkgpffjaaDoor

namespace Go.Proofs.YteipcbpkgpffjaaDoor
open Go.RowKit
set_option maxRecDepth 100000

theorem RefAt.dark {w : World} {p : Nat} {S : Nat → Prop} {V : Nat → Value} {D : DM} (h : RefAt w p S V D) :
    RefAt ((w.setCell ⟨p, 26, none⟩ (.bool false)).setCell ⟨p, 25, none⟩ (.int .i64 (-1))) p S V { D with lit := false, fuse := 0, lost := false } :=
  h.unlose.fused false 0 (-1) (by simp) (by decide)

set_option maxHeartbeats 4000000 in
theorem rrestart_in {w : World} {p : Nat} {S : Nat → Prop} {V : Nat → Value} {D : DM} (h : RefAt w p S V D) (k0 k1 k2 k3 k4 k5 k6 k7 : Int) (hk0 : ∀ i, -9223372036854775808 ≤ kp k0 k1 k2 k3 k4 k5 k6 k7 i ∧ kp k0 k1 k2 k3 k4 k5 k6 k7 i ≤ 9223372036854775807) :
    Calls Tryd.prog 23 #[.pointer (some ⟨p, 0, none⟩), .agg #[.int .i64 k0, .int .i64 k1, .int .i64 k2, .int .i64 k3, .int .i64 k4, .int .i64 k5, .int .i64 k6, .int .i64 k7]] w
      fun e w' => e = .returned (.tuple #[]) ∧ (∃ V' S', RefAt w' p S' V' (D.restart (kp k0 k1 k2 k3 k4 k5 k6 k7)) ∧ ∀ k, S' k → S k ∨ (w.heap.size ≤ k ∧ k < w'.heap.size)) ∧ Upd S w w' := by
  have hp := h.lt p h.own
  generalize hkp : kp k0 k1 k2 k3 k4 k5 k6 k7 = keep at *
  have HK := Lib.hid hkp
  clear hkp
  have h25 := h.c25
  have h26 := h.c26
  have f25 := h.frozen 25
  have f26 := h.frozen 26
  go_enter Tryd.func23, Tryd.ntmps23
  go_wp2_with fail
  have hks : ∀ i, i < 8 → (((w.setCell ⟨p, 26, none⟩ (.bool false)).setCell ⟨p, 25, none⟩ (.int .i64 (-1))).alloc (.cells #[.int .i64 k0, .int .i64 k1, .int .i64 k2, .int .i64 k3, .int .i64 k4, .int .i64 k5, .int .i64 k6, .int .i64 k7] 34)).cell? ⟨w.heap.size, i, none⟩ = some (.int .i64 (keep i)) := by
    intro i hi
    rw [← HK.out]
    have e0 : ((w.setCell ⟨p, 26, none⟩ (.bool false)).setCell ⟨p, 25, none⟩ (.int .i64 (-1))).heap.size = w.heap.size := by rw [setCell_size, setCell_size]
    rw [← e0]
    generalize (w.setCell ⟨p, 26, none⟩ (.bool false)).setCell ⟨p, 25, none⟩ (.int .i64 (-1)) = wb
    rcases eight hi with rfl | rfl | rfl | rfl | rfl | rfl | rfl | rfl <;> simp [kp]
  have hd0 := h.dark.below ((Below.refl _ _).alloc (Nat.le_refl _) (.cells #[.int .i64 k0, .int .i64 k1, .int .i64 k2, .int .i64 k3, .int .i64 k4, .int .i64 k5, .int .i64 k6, .int .i64 k7] 34))
  have u1 : Upd S w (((w.setCell ⟨p, 26, none⟩ (.bool false)).setCell ⟨p, 25, none⟩ (.int .i64 (-1))).alloc (.cells #[.int .i64 k0, .int .i64 k1, .int .i64 k2, .int .i64 k3, .int .i64 k4, .int .i64 k5, .int .i64 k6, .int .i64 k7] 34)) :=
    (((Upd.refl S w).setCell (p := ⟨p, 26, none⟩) (.inl h.own) _).setCell (p := ⟨p, 25, none⟩) (.inl h.own) _).alloc _
  have hsz : w.heap.size < (((w.setCell ⟨p, 26, none⟩ (.bool false)).setCell ⟨p, 25, none⟩ (.int .i64 (-1))).alloc (.cells #[.int .i64 k0, .int .i64 k1, .int .i64 k2, .int .i64 k3, .int .i64 k4, .int .i64 k5, .int .i64 k6, .int .i64 k7] 34)).heap.size := by simp
  have hS : ∀ k, S k → k < w.heap.size := h.lt
  generalize hDk : ({ D with lit := false, fuse := 0, lost := false } : DM) = Dk at *
  have hend : Dk.upto keep 8 = D.restart keep := by rw [← hDk]; rfl
  have HEND := Lib.hid hend
  have hok := hd0.ok
  clear hDk hend h25 h26 f25 f26
  generalize ((w.setCell ⟨p, 26, none⟩ (.bool false)).setCell ⟨p, 25, none⟩ (.int .i64 (-1))).alloc (.cells #[.int .i64 k0, .int .i64 k1, .int .i64 k2, .int .i64 k3, .int .i64 k4, .int .i64 k5, .int .i64 k6, .int .i64 k7] 34) = wa at *
  go_loopw [4, 5, 12] (fun _ _ i wr => ∃ k : Nat, k ≤ 8 ∧ i = .int .i64 k ∧ ∃ S' V', RefAt wr p S' V' (Dk.upto keep k) ∧ Upd S wa wr ∧ ∀ j, S' j → S j ∨ (wa.heap.size ≤ j ∧ j < wr.heap.size)) (fun _ _ i _ => 8 - (intOf i).toNat)
  case atStart => exact ⟨0, by omega, rfl, S, V, by rw [DM.upto_zero]; exact hd0, Upd.refl _ _, fun j hj => .inl hj⟩
  case round =>
    obtain ⟨k, hk, rfl, S', V', hd, hu, hin⟩ := hrel
    by_cases hlt : k < 8
    · have hown := hd.own
      have xk : wr.cell? ⟨w.heap.size, k, none⟩ = some (.int .i64 (keep k)) := (hu.cell (p := ⟨w.heap.size, k, none⟩) hsz (fun x => absurd (hS _ x) (Nat.lt_irrefl _))).trans (hks k hlt)
      have hkk := hk0 k
      clear hks
      obtain ⟨a, c, hv, hby, hc1, hc2, hnc⟩ := hd.bytes k hlt
      have x0 := hd.has k hlt
      have x1 := hd.val k hlt
      have x2 := hd.safe k hlt
      have hsf := hd.ok.safe k hlt
      rw [hv] at x1
      rw [DM.upto_at] at x0 x1 x2 hby hc1 hsf
      have hlt8 : (k : Int) < 8 := by omega
      have hn63 : (Dk.f k).b.length ≤ 1048576 := by have := Dk.set_len k hlt; have := hok.used; have := hok.cap; omega
      by_cases hh : (Dk.f k).has = true
      · rw [hh] at x0
        unfold maxLen at hc2
        by_cases hgt : ((Dk.f k).b.length : Int) < keep k
        · have hleft : (Dk.f k).left (keep k) = (Dk.f k).b.length := by unfold FM.left; omega
          have hfin : (Dk.upto keep k).set k { has := true, b := (Dk.f k).b.take ((Dk.f k).b.length), safe := (Dk.f k).b.length } = Dk.upto keep (k + 1) := by rw [← DM.upto_succ, FM.restart, hleft, hh]
          have HFIN := Lib.hid hfin
          clear hleft hfin
          go_wp2_with fail
          go_quiet (fail)
          go_wp2_with fail
          go_quiet (fail)
          go_wp2_with fail

          generalize hWe : wr.drewN _ = W
          have hW : RefAt W p S' V' (Dk.upto keep k) := hWe ▸ hd.drewN _
          have uW : Upd S' wr W := hWe ▸ (Upd.refl S' wr).drewN _
          have hbW : IsBytes W a (Dk.f k).b := hWe ▸ hby.upd (S := fun _ => False) ((Upd.refl _ wr).drewN _) (fun _ _ _ x => x)
          have y1 : W.cell? ⟨p, 1 + k * 3 + 1, none⟩ = some (.slice a (Dk.f k).b.length c) := hWe ▸ x1
          have sW : W.heap.size = wr.heap.size := hWe ▸ rfl
          have SW := Lib.hid sW
          clear hWe sW x0 x1 x2 xk
          have hpW := hW.lt p hW.own
          have yA : (W.alloc (.cells #[] 5)).cell? ⟨p, 1 + k * 3 + 1, none⟩ = some (.slice a (Dk.f k).b.length c) := by rw [World.cell?_alloc_past _ _ _ hpW]; exact y1
          have happ : (Dk.f k).b.length ≤ 140737488355328 := by omega
          have hmc : (Dk.f k).b.length ≤ c := by omega
          have hmi : ((Dk.f k).b.length : Int) ≤ c := by omega
          have htl : ((Dk.f k).b.take ((Dk.f k).b.length)).length = (Dk.f k).b.length := by rw [List.length_take]; omega
          have HTL := Lib.hid htl
          clear htl
          go_region_law
            (refine step_append_new (by rfl) _ _ 22 (by rfl) Tryd.underlying22 u8_info (by kernel_rfl) a ((Dk.f k).b.take ((Dk.f k).b.length)) ((Dk.f k).b.length) HTL.out c (by kernel_rfl) (hbW.take ((Dk.f k).b.length)) hnc happ ?_; intro a' c' w1 hr1 hb1; have hd1 := hW.below hb1; have z0 := hd1.has k hlt; have z1 := hd1.val k hlt; have z2 := hd1.safe k hlt; have f0 := hd1.frozen (1 + k * 3); have f1 := hd1.frozen (1 + k * 3 + 1); have f2 := hd1.frozen (1 + k * 3 + 2))
          all_goals
            go_wp2
            go_roundw
            case rel =>
              obtain ⟨V2, h2, u2⟩ := hW.filed hb1 hlt (zs := (Dk.f k).b.take ((Dk.f k).b.length)) (n := (Dk.f k).b.length) HTL.out hr1 (Nat.le_refl _) (by have h9 := hW.ok.used; rw [DM.upto_at]; omega)
              rw [HFIN.out] at h2
              refine ⟨k + 1, by omega, by go_num, _, V2, by simpa using h2, hu.trans (uW.trans (by simpa using u2) (fun _ _ x => x)) (fun j hj x => (hin j x).resolve_right (by omega)), ?_⟩
              intro j hj
              have hs1 := hb1.size
              have hs2 := hu.size
              have hs3 := SW.out
              rcases hj with hj | hj
              · rcases hin j hj with h7 | h7
                · exact .inl h7
                · exact .inr ⟨h7.1, by simp; omega⟩
              · exact .inr ⟨by omega, by simp; omega⟩
            case measure => simp [intOf]; omega
        · by_cases hgt2 : ((Dk.f k).b.length : Int) < (Dk.f k).safe + max (keep k) 0
          · have hleft : (Dk.f k).left (keep k) = (Dk.f k).b.length := by unfold FM.left; omega
            have hfin : (Dk.upto keep k).set k { has := true, b := (Dk.f k).b.take ((Dk.f k).b.length), safe := (Dk.f k).b.length } = Dk.upto keep (k + 1) := by rw [← DM.upto_succ, FM.restart, hleft, hh]
            have HFIN := Lib.hid hfin
            clear hleft hfin
            go_wp2_with fail
            go_quiet (fail)
            go_wp2_with fail
            go_quiet (fail)
            go_wp2_with fail

            generalize hWe : wr.drewN _ = W
            have hW : RefAt W p S' V' (Dk.upto keep k) := hWe ▸ hd.drewN _
            have uW : Upd S' wr W := hWe ▸ (Upd.refl S' wr).drewN _
            have hbW : IsBytes W a (Dk.f k).b := hWe ▸ hby.upd (S := fun _ => False) ((Upd.refl _ wr).drewN _) (fun _ _ _ x => x)
            have y1 : W.cell? ⟨p, 1 + k * 3 + 1, none⟩ = some (.slice a (Dk.f k).b.length c) := hWe ▸ x1
            have sW : W.heap.size = wr.heap.size := hWe ▸ rfl
            have SW := Lib.hid sW
            clear hWe sW x0 x1 x2 xk
            have hpW := hW.lt p hW.own
            have yA : (W.alloc (.cells #[] 5)).cell? ⟨p, 1 + k * 3 + 1, none⟩ = some (.slice a (Dk.f k).b.length c) := by rw [World.cell?_alloc_past _ _ _ hpW]; exact y1
            have happ : (Dk.f k).b.length ≤ 140737488355328 := by omega
            have hmc : (Dk.f k).b.length ≤ c := by omega
            have hmi : ((Dk.f k).b.length : Int) ≤ c := by omega
            have htl : ((Dk.f k).b.take ((Dk.f k).b.length)).length = (Dk.f k).b.length := by rw [List.length_take]; omega
            have HTL := Lib.hid htl
            clear htl
            go_region_law
              (refine step_append_new (by rfl) _ _ 22 (by rfl) Tryd.underlying22 u8_info (by kernel_rfl) a ((Dk.f k).b.take ((Dk.f k).b.length)) ((Dk.f k).b.length) HTL.out c (by kernel_rfl) (hbW.take ((Dk.f k).b.length)) hnc happ ?_; intro a' c' w1 hr1 hb1; have hd1 := hW.below hb1; have z0 := hd1.has k hlt; have z1 := hd1.val k hlt; have z2 := hd1.safe k hlt; have f0 := hd1.frozen (1 + k * 3); have f1 := hd1.frozen (1 + k * 3 + 1); have f2 := hd1.frozen (1 + k * 3 + 2))
            all_goals
              go_wp2
              go_roundw
              case rel =>
                obtain ⟨V2, h2, u2⟩ := hW.filed hb1 hlt (zs := (Dk.f k).b.take ((Dk.f k).b.length)) (n := (Dk.f k).b.length) HTL.out hr1 (Nat.le_refl _) (by have h9 := hW.ok.used; rw [DM.upto_at]; omega)
                rw [HFIN.out] at h2
                refine ⟨k + 1, by omega, by go_num, _, V2, by simpa using h2, hu.trans (uW.trans (by simpa using u2) (fun _ _ x => x)) (fun j hj x => (hin j x).resolve_right (by omega)), ?_⟩
                intro j hj
                have hs1 := hb1.size
                have hs2 := hu.size
                have hs3 := SW.out
                rcases hj with hj | hj
                · rcases hin j hj with h7 | h7
                  · exact .inl h7
                  · exact .inr ⟨h7.1, by simp; omega⟩
                · exact .inr ⟨by omega, by simp; omega⟩
              case measure => simp [intOf]; omega
          · by_cases hpos : 0 ≤ keep k
            · obtain ⟨m, hm⟩ := Int.eq_ofNat_of_zero_le (show 0 ≤ ((Dk.f k).safe : Int) + keep k by omega)
              have hmle : m ≤ (Dk.f k).b.length := by omega
              have hleft : (Dk.f k).left (keep k) = m := by unfold FM.left; omega
              have hfin : (Dk.upto keep k).set k { has := true, b := (Dk.f k).b.take (m), safe := m } = Dk.upto keep (k + 1) := by rw [← DM.upto_succ, FM.restart, hleft, hh]
              have HFIN := Lib.hid hfin
              clear hleft hfin
              go_wp2_with fail
              go_quiet (fail)
              go_wp2_with fail
              go_quiet (fail)
              go_wp2_with fail
              try rw [hm]

              generalize hWe : (wr.drewN _).drewN _ = W
              have hW : RefAt W p S' V' (Dk.upto keep k) := hWe ▸ (hd.drewN _).drewN _
              have uW : Upd S' wr W := hWe ▸ ((Upd.refl S' wr).drewN _).drewN _
              have hbW : IsBytes W a (Dk.f k).b := hWe ▸ hby.upd (S := fun _ => False) (((Upd.refl _ wr).drewN _).drewN _) (fun _ _ _ x => x)
              have y1 : W.cell? ⟨p, 1 + k * 3 + 1, none⟩ = some (.slice a (Dk.f k).b.length c) := hWe ▸ x1
              have sW : W.heap.size = wr.heap.size := hWe ▸ rfl
              have SW := Lib.hid sW
              clear hWe sW x0 x1 x2 xk
              have hpW := hW.lt p hW.own
              have yA : (W.alloc (.cells #[] 5)).cell? ⟨p, 1 + k * 3 + 1, none⟩ = some (.slice a (Dk.f k).b.length c) := by rw [World.cell?_alloc_past _ _ _ hpW]; exact y1
              have happ : m ≤ 140737488355328 := by omega
              have hmc : m ≤ c := by omega
              have hmi : (m : Int) ≤ c := by omega
              have htl : ((Dk.f k).b.take (m)).length = m := by rw [List.length_take]; omega
              have HTL := Lib.hid htl
              clear htl
              go_region_law
                (refine step_append_new (by rfl) _ _ 22 (by rfl) Tryd.underlying22 u8_info (by kernel_rfl) a ((Dk.f k).b.take (m)) (m) HTL.out c (by kernel_rfl) (hbW.take (m)) hnc happ ?_; intro a' c' w1 hr1 hb1; have hd1 := hW.below hb1; have z0 := hd1.has k hlt; have z1 := hd1.val k hlt; have z2 := hd1.safe k hlt; have f0 := hd1.frozen (1 + k * 3); have f1 := hd1.frozen (1 + k * 3 + 1); have f2 := hd1.frozen (1 + k * 3 + 2))
              all_goals
                go_wp2
                go_roundw
                case rel =>
                  obtain ⟨V2, h2, u2⟩ := hW.filed hb1 hlt (zs := (Dk.f k).b.take (m)) (n := m) HTL.out hr1 (Nat.le_refl _) (by have h9 := hW.ok.used; rw [DM.upto_at]; omega)
                  rw [HFIN.out] at h2
                  refine ⟨k + 1, by omega, by go_num, _, V2, by simpa using h2, hu.trans (uW.trans (by simpa using u2) (fun _ _ x => x)) (fun j hj x => (hin j x).resolve_right (by omega)), ?_⟩
                  intro j hj
                  have hs1 := hb1.size
                  have hs2 := hu.size
                  have hs3 := SW.out
                  rcases hj with hj | hj
                  · rcases hin j hj with h7 | h7
                    · exact .inl h7
                    · exact .inr ⟨h7.1, by simp; omega⟩
                  · exact .inr ⟨by omega, by simp; omega⟩
                case measure => simp [intOf]; omega
            · have hleft : (Dk.f k).left (keep k) = (Dk.f k).safe := by unfold FM.left; omega
              have hfin : (Dk.upto keep k).set k { has := true, b := (Dk.f k).b.take ((Dk.f k).safe), safe := (Dk.f k).safe } = Dk.upto keep (k + 1) := by rw [← DM.upto_succ, FM.restart, hleft, hh]
              have HFIN := Lib.hid hfin
              clear hleft hfin
              go_wp2_with fail
              go_quiet (fail)
              go_wp2_with fail
              go_quiet (fail)
              go_wp2_with fail

              generalize hWe : (wr.drewN _).drewN _ = W
              have hW : RefAt W p S' V' (Dk.upto keep k) := hWe ▸ (hd.drewN _).drewN _
              have uW : Upd S' wr W := hWe ▸ ((Upd.refl S' wr).drewN _).drewN _
              have hbW : IsBytes W a (Dk.f k).b := hWe ▸ hby.upd (S := fun _ => False) (((Upd.refl _ wr).drewN _).drewN _) (fun _ _ _ x => x)
              have y1 : W.cell? ⟨p, 1 + k * 3 + 1, none⟩ = some (.slice a (Dk.f k).b.length c) := hWe ▸ x1
              have sW : W.heap.size = wr.heap.size := hWe ▸ rfl
              have SW := Lib.hid sW
              clear hWe sW x0 x1 x2 xk
              have hpW := hW.lt p hW.own
              have yA : (W.alloc (.cells #[] 5)).cell? ⟨p, 1 + k * 3 + 1, none⟩ = some (.slice a (Dk.f k).b.length c) := by rw [World.cell?_alloc_past _ _ _ hpW]; exact y1
              have happ : (Dk.f k).safe ≤ 140737488355328 := by omega
              have hmc : (Dk.f k).safe ≤ c := by omega
              have hmi : ((Dk.f k).safe : Int) ≤ c := by omega
              have htl : ((Dk.f k).b.take ((Dk.f k).safe)).length = (Dk.f k).safe := by rw [List.length_take]; omega
              have HTL := Lib.hid htl
              clear htl
              go_region_law
                (refine step_append_new (by rfl) _ _ 22 (by rfl) Tryd.underlying22 u8_info (by kernel_rfl) a ((Dk.f k).b.take ((Dk.f k).safe)) ((Dk.f k).safe) HTL.out c (by kernel_rfl) (hbW.take ((Dk.f k).safe)) hnc happ ?_; intro a' c' w1 hr1 hb1; have hd1 := hW.below hb1; have z0 := hd1.has k hlt; have z1 := hd1.val k hlt; have z2 := hd1.safe k hlt; have f0 := hd1.frozen (1 + k * 3); have f1 := hd1.frozen (1 + k * 3 + 1); have f2 := hd1.frozen (1 + k * 3 + 2))
              all_goals
                go_wp2
                go_roundw
                case rel =>
                  obtain ⟨V2, h2, u2⟩ := hW.filed hb1 hlt (zs := (Dk.f k).b.take ((Dk.f k).safe)) (n := (Dk.f k).safe) HTL.out hr1 (Nat.le_refl _) (by have h9 := hW.ok.used; rw [DM.upto_at]; omega)
                  rw [HFIN.out] at h2
                  refine ⟨k + 1, by omega, by go_num, _, V2, by simpa using h2, hu.trans (uW.trans (by simpa using u2) (fun _ _ x => x)) (fun j hj x => (hin j x).resolve_right (by omega)), ?_⟩
                  intro j hj
                  have hs1 := hb1.size
                  have hs2 := hu.size
                  have hs3 := SW.out
                  rcases hj with hj | hj
                  · rcases hin j hj with h7 | h7
                    · exact .inl h7
                    · exact .inr ⟨h7.1, by simp; omega⟩
                  · exact .inr ⟨by omega, by simp; omega⟩
                case measure => simp [intOf]; omega
      · have hh' : (Dk.f k).has = false := by simpa using hh
        have hsame : Dk.upto keep (k + 1) = Dk.upto keep k := by
          obtain ⟨e1, e2⟩ := hok.none k hlt hh'
          have hre : (Dk.f k).restart (keep k) = Dk.f k := by
            revert e1 e2
            rcases Dk.f k with ⟨hs, b, s⟩
            rintro rfl rfl
            simp [FM.restart, FM.left]
            omega
          unfold DM.upto
          simp only [DM.mk.injEq, true_and, and_true]
          funext i
          by_cases h1 : i = k
          · subst h1; simp [hre]
          · have h3 : i < k + 1 ↔ i < k := by omega
            simp [h3]
        rw [hh'] at x0
        go_wp2
        go_roundw
        case rel => exact ⟨k + 1, by omega, by go_num, S', V', by rw [hsame]; exact hd, hu, hin⟩
        case measure => simp [intOf]; omega
    · obtain rfl : k = 8 := by omega
      clear hks
      go_wp2
      go_end0
      refine ⟨rfl, ⟨V', S', ?_, ?_⟩, ?_⟩
      · rw [← HEND.out]; exact hd
      · intro j hj; exact (hin j hj).imp id (fun x => ⟨by omega, x.2⟩)
      · exact u1.trans hu (fun _ _ x => x)
end Go.Proofs.YteipcbpkgpffjaaDoor
