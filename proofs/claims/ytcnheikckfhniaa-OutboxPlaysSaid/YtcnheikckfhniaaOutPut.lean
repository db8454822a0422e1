/-
  Package outbox: say, Put. Conditions: those of each theorem.
-/
import Derived.Test.YtcnheikckfhniaaOutKeep
namespace Go.Proofs.Ytcnheikckfhniaa
open Go.RowKit
set_option maxRecDepth 100000

/-- Said once more. -/
def said (m : Msg) (now : Int) : Msg := ⟨m.key, m.kind, m.rma, m.value, m.tries + 1, now + waitOf (m.tries + 1)⟩
/-- Blocks of the call's own, made ahead of what it calls and stored to behind it. -/
theorem kept_lift {w w1 w2 w3 : World} {p : Nat} {S : Nat → Prop} {last : Int} {xs : List Msg} {ts : List Tm} {m : Msg} (hb : Below w.heap.size w w1) (hk : Kept w1 p (fun k => S k ∧ k < w.heap.size) last xs ts m w2) (hu : Upd (fun k => w.heap.size ≤ k ∧ k < w1.heap.size) w2 w3) : Kept w p S last xs ts m w3 := by
  obtain ⟨h1, h2⟩ := hk
  have s1 := hb.size
  have s2 := h2.size
  have s3 := hu.size
  refine ⟨(h1.upd hu ?_).mono ?_, (((Upd.below hb (S := fun _ => False)).mono (fun _ _ x => x.elim)).trans h2 (fun k _ x => x.1)).trans hu (fun k hk x => by omega)⟩
  · rintro k (⟨_, x⟩ | ⟨x, _⟩) y
    · omega
    · omega
  · rintro k (⟨x, _⟩ | ⟨x, y⟩)
    · exact .inl x
    · exact .inr ⟨by omega, by omega⟩
theorem info_msg : (Try.prog.info? 31).map (·.size) = some 6 := by kernel_rfl
/-- The six cells are stored. -/
def set6 (w : World) (g : Nat) (m : Msg) : World := (((((w.setCell ⟨g, 0, none⟩ (.int .i64 m.key)).setCell ⟨g, 1, none⟩ (.int .i64 m.kind)).setCell ⟨g, 2, none⟩ (.int .i64 m.rma)).setCell ⟨g, 3, none⟩ (.int .i64 m.value)).setCell ⟨g, 4, none⟩ (.int .i64 m.tries)).setCell ⟨g, 5, none⟩ (.int .i64 m.due)
theorem set6_upd (w : World) (g : Nat) (m : Msg) : Upd (fun k => k = g) w (set6 w g m) :=
  (((((upd_set _ _).trans (upd_set _ _) (fun _ _ x => x)).trans (upd_set _ _) (fun _ _ x => x)).trans (upd_set _ _) (fun _ _ x => x)).trans (upd_set _ _) (fun _ _ x => x)).trans (upd_set _ _) (fun _ _ x => x)
theorem set6_at {w : World} {g : Nat} {m x : Msg} {t : TypeId} {fr : Nat × Nat} (h : w.heap[g]? = some (.cells #[.int .i64 x.key, .int .i64 x.kind, .int .i64 x.rma, .int .i64 x.value, .int .i64 x.tries, .int .i64 x.due] t fr)) : (set6 w g m).heap[g]? = some (.cells #[.int .i64 m.key, .int .i64 m.kind, .int .i64 m.rma, .int .i64 m.value, .int .i64 m.tries, .int .i64 m.due] t fr) := by
  have g0 := setCell_heap_at (o := 0) (u := .int .i64 m.key) h
  have g1 := setCell_heap_at (o := 1) (u := .int .i64 m.kind) g0
  have g2 := setCell_heap_at (o := 2) (u := .int .i64 m.rma) g1
  have g3 := setCell_heap_at (o := 3) (u := .int .i64 m.value) g2
  have g4 := setCell_heap_at (o := 4) (u := .int .i64 m.tries) g3
  have g5 := setCell_heap_at (o := 5) (u := .int .i64 m.due) g4
  simpa [set6] using g5
/-- A block of a message. -/
structure MsgBox (w : World) (g : Nat) (m : Msg) : Prop where
  at' : w.heap[g]? = some (.cells #[.int .i64 m.key, .int .i64 m.kind, .int .i64 m.rma, .int .i64 m.value, .int .i64 m.tries, .int .i64 m.due] 31 (0, 0))
theorem MsgBox.cells {w : World} {g : Nat} {m : Msg} (h : MsgBox w g m) : w.cell? ⟨g, 0, none⟩ = some (.int .i64 m.key) ∧ w.cell? ⟨g, 1, none⟩ = some (.int .i64 m.kind) ∧ w.cell? ⟨g, 2, none⟩ = some (.int .i64 m.rma) ∧ w.cell? ⟨g, 3, none⟩ = some (.int .i64 m.value) ∧ w.cell? ⟨g, 4, none⟩ = some (.int .i64 m.tries) ∧ w.cell? ⟨g, 5, none⟩ = some (.int .i64 m.due) := by
  have := h.at'
  simp [World.cell?, this]
theorem MsgBox.fz {w : World} {g : Nat} {m : Msg} (h : MsgBox w g m) (j : Nat) : w.frozen? ⟨g, j, none⟩ = false := by
  have := h.at'
  simp [World.frozen?, this]
theorem MsgBox.upd {S : Nat → Prop} {w w' : World} {g : Nat} {m : Msg} (h : MsgBox w g m) (hu : Upd S w w') (hn : ¬ S g) : MsgBox w' g m :=
  ⟨(hu.block g (Array.getElem?_eq_some_iff.1 h.at').1 hn).trans h.at'⟩
theorem MsgBox.set {w : World} {g : Nat} {m : Msg} (h : MsgBox w g m) (x : Msg) : MsgBox (set6 w g x) g x := ⟨set6_at h.at'⟩
theorem MsgBox.made (w : World) (m : Msg) : MsgBox (w.alloc (.cells #[.int .i64 m.key, .int .i64 m.kind, .int .i64 m.rma, .int .i64 m.value, .int .i64 m.tries, .int .i64 m.due] 31)) w.heap.size m := ⟨heap_alloc_new w _⟩

theorem two_boxes (w : World) (a b : Msg) : ∃ w1, (Below w.heap.size w w1 ∧ w1.heap.size = w.heap.size + 2) ∧ w1 = ((w.alloc (.cells #[.int .i64 a.key, .int .i64 a.kind, .int .i64 a.rma, .int .i64 a.value, .int .i64 a.tries, .int .i64 a.due] 31)).alloc (.cells #[.int .i64 b.key, .int .i64 b.kind, .int .i64 b.rma, .int .i64 b.value, .int .i64 b.tries, .int .i64 b.due] 31)) ∧ MsgBox w1 w.heap.size a ∧ MsgBox w1 (w.heap.size + 1) b := by
  refine ⟨_, ⟨blw_alloc (upd_box _) _, by simp⟩, rfl, ?_, ?_⟩
  · exact (MsgBox.made w a).upd (S := fun _ => False) (Upd.below (upd_box _)) (fun x => x)
  · have := MsgBox.made (w.alloc (.cells #[.int .i64 a.key, .int .i64 a.kind, .int .i64 a.rma, .int .i64 a.value, .int .i64 a.tries, .int .i64 a.due] 31)) b
    rwa [show (w.alloc (.cells #[.int .i64 a.key, .int .i64 a.kind, .int .i64 a.rma, .int .i64 a.value, .int .i64 a.tries, .int .i64 a.due] 31)).heap.size = w.heap.size + 1 by simp] at this

set_option maxHeartbeats 2000000 in
theorem out_say {w : World} {p : Nat} {S : Nat → Prop} {last : Int} {xs : List Msg} {ts : List Tm} (h : OutSt w p S last xs ts) (m : Msg) (now : Int) (hmk : 1 ≤ m.key ∧ m.key ≤ last) (hfew : xs.length < 900) (htf : ts.length < 1000)
    (htr : 0 ≤ m.tries ∧ m.tries < 1000000) (hnow : -(1099511627776) ≤ now ∧ now ≤ 1099511627776) :
    Calls Try.prog 23 #[.pointer (some ⟨p, 0, none⟩), .agg #[.int .i64 m.key, .int .i64 m.kind, .int .i64 m.rma, .int .i64 m.value, .int .i64 m.tries, .int .i64 m.due], .int .i64 now] w fun e w' => e = .returned (.agg #[.int .i64 (said m now).key, .int .i64 (said m now).kind, .int .i64 (said m now).rma, .int .i64 (said m now).value, .int .i64 (said m now).tries, .int .i64 (said m now).due]) ∧ Kept w p S last xs ts (said m now) w' := by
  have HW : Aside (∀ w, Calls Try.prog 19 #[.int .i64 (m.tries + 1)] w fun e w' => e = .returned (.int .i64 (waitOf (m.tries + 1))) ∧ w = w') := fun w => out_wait (m.tries + 1) w
  have hwb := waitOf_bounds (m.tries + 1)
  have H : Aside _ := h
  have hpl := h.lt
  have HK : Aside (∀ w1, Below w.heap.size w w1 → Calls Try.prog 31 #[.pointer (some ⟨p, 0, none⟩), .agg #[.int .i64 (said m now).key, .int .i64 (said m now).kind, .int .i64 (said m now).rma, .int .i64 (said m now).value, .int .i64 (said m now).tries, .int .i64 (said m now).due]] w1 fun e w' => e = .returned (.tuple #[]) ∧ Kept w1 p (fun k => S k ∧ k < w.heap.size) last xs ts (said m now) w') := fun w1 hb => out_keep (h.lower.below hb) (said m now) hmk hfew htf
  have HL : Aside (∀ w1 w2 w3, Below w.heap.size w w1 → w1.heap.size = w.heap.size + 2 → Kept w1 p (fun k => S k ∧ k < w.heap.size) last xs ts (said m now) w2 → Upd (fun k => k = w.heap.size + 1) w2 w3 → Kept w p S last xs ts (said m now) w3) :=
    fun w1 w2 w3 hb hs hk hu => kept_lift hb hk (hu.mono (fun k _ e => ⟨by omega, by omega⟩))
  clear h
  obtain ⟨mk, mi, mr, mv, mt, mu⟩ := m
  unfold said at *
  dsimp only at *
  generalize waitOf (mt + 1) = wt at *
  go_enter Try.func23, Try.ntmps23
  go_wp2_with fail
  refine Calls.mono (HW.out _) ?_
  rintro e w1 ⟨rfl, rfl⟩
  go_wp2_with fail
  obtain ⟨w1, h1, e1, X1, X2⟩ := two_boxes w ⟨mk, mi, mr, mv, mt + 1, now + wt⟩ msg0
  unfold msg0 at e1 X2
  dsimp only at e1
  rw [← e1]
  clear e1
  refine Calls.mono (HK.out _ h1.1) ?_
  rintro e w2 ⟨rfl, hk⟩
  have X1' := X1.upd hk.2 (fun e => by omega)
  have X2' := X2.upd hk.2 (fun e => by omega)
  have HF : Aside (Kept w p S last xs ts ⟨mk, mi, mr, mv, mt + 1, now + wt⟩ (set6 w2 (w.heap.size + 1) ⟨mk, mi, mr, mv, mt + 1, now + wt⟩)) := HL.out _ _ _ h1.1 h1.2 hk (set6_upd _ _ _)
  have HB : Aside _ := X2'.set ⟨mk, mi, mr, mv, mt + 1, now + wt⟩
  obtain ⟨y0, y1, y2, y3, y4, y5⟩ := X1'.cells
  obtain ⟨z0, z1, z2, z3, z4, z5⟩ := X2'.cells
  have zf := X2'.fz
  clear hk h1 X1 X2 X1' X2' HK HL HW H
  generalize w.heap.size + 1 = g2 at *
  generalize w.heap.size = B at y0 y1 y2 y3 y4 y5 ⊢
  unfold set6 at HF HB
  dsimp only at HF HB
  go_wp2
  refine bodyPost_ret (results_cell_row rfl _ _ g2 31 #[.int .i64 mk, .int .i64 mi, .int .i64 mr, .int .i64 mv, .int .i64 (mt + 1), .int .i64 (now + wt)] (0, 0) _ rfl HB.out.at' Try.underlying31 rfl info_msg) rfl ?_
  exact ⟨rfl, HF.out⟩

/-- The next message of an outbox. -/
def fresh (last kind rma value now : Int) : Msg := ⟨last + 1, kind, rma, value, 1, now + 1⟩
theorem said_fresh (last kind rma value now : Int) : said ⟨last + 1, kind, rma, value, 0, 0⟩ now = fresh last kind rma value now := rfl
theorem OutSt.bump {w : World} {p : Nat} {S : Nat → Prop} {last : Int} {xs : List Msg} {ts : List Tm} (h : OutSt w p S last xs ts) (hl : last < 9223372036854775807) : OutSt (w.setCell ⟨p, 0, none⟩ (.int .i64 (last + 1))) p S (last + 1) xs ts := by
  obtain ⟨T, ys, h1, h2, h3, h4⟩ := h.st
  have hl' := h.lst
  refine ⟨h.nd, h.few, by omega, fun m hm => by have := h.keys m hm; omega, cell_same h.c0, fun j => by rw [World.frozen?_setCell]; exact h.fz j, T, ys, h1, h2.other (by omega) (by omega) _, h3, ?_⟩
  exact h4.imp (fun q => ⟨q.1, (cell_other (by omega)).trans q.2⟩) (fun ⟨b, q1, q2, q3, q4⟩ => ⟨b, q1, q2, (cell_other (by omega)).trans q3, q4.upd (upd_set (p := p) 0 (.int .i64 (last + 1))) (fun e => q2 (e ▸ h2.1))⟩)
theorem out_lift {w w1 w2 w3 : World} {p : Nat} {S : Nat → Prop} {last : Int} {xs : List Msg} {ts : List Tm} (s1 : w.heap.size ≤ w1.heap.size) (h1 : OutSt w2 p (More (fun k => S k ∧ k < w.heap.size) w1 w2) last xs ts) (hu : Upd (fun k => w.heap.size ≤ k ∧ k < w1.heap.size) w2 w3) : OutSt w3 p (More S w w3) last xs ts := by
  have s3 := hu.size
  refine (h1.upd hu ?_).mono ?_
  · rintro k (⟨_, x⟩ | ⟨x, _⟩) y
    · omega
    · omega
  · rintro k (⟨x, _⟩ | ⟨x, y⟩)
    · exact .inl x
    · exact .inr ⟨by omega, by omega⟩
/-- With a message of a new key. -/
theorem OutSt.added {w : World} {p : Nat} {S : Nat → Prop} {last : Int} {xs : List Msg} {x : Msg} (h : OutSt w p S last (x :: wo xs x.key) (without (xs.map tmOf) x.key ++ [tmOf x])) (hn : look xs x.key = none) : OutAt w p S last (x :: xs) := by
  rw [wo_none hn] at h
  have e : without (xs.map tmOf) x.key = xs.map tmOf := without_none (fun t ht => by
    obtain ⟨m, hm, rfl⟩ := List.mem_map.1 ht
    exact look_none.1 hn m hm)
  rw [e] at h
  exact OutSt.perm h (List.Perm.refl _) (List.perm_append_singleton _ _)

set_option maxHeartbeats 2000000 in
theorem out_put {w : World} {p : Nat} {S : Nat → Prop} {last : Int} {xs : List Msg} (h : OutAt w p S last xs) (kind rma value now : Int) (hfew : xs.length < 900) (hl : last < 9223372036854775807) (hnow : -(1099511627776) ≤ now ∧ now ≤ 1099511627776) :
    Calls Try.prog 10 #[.pointer (some ⟨p, 0, none⟩), .int .i64 kind, .int .i64 rma, .int .i64 value, .int .i64 now] w fun e w' => e = .returned (.agg #[.int .i64 (fresh last kind rma value now).key, .int .i64 (fresh last kind rma value now).kind, .int .i64 (fresh last kind rma value now).rma, .int .i64 (fresh last kind rma value now).value, .int .i64 (fresh last kind rma value now).tries, .int .i64 (fresh last kind rma value now).due]) ∧ OutAt w' p (More S w w') (last + 1) (fresh last kind rma value now :: xs) ∧ Upd S w w' := by
  have hpl := h.lt
  have h0 := h.c0
  have hf0 := h.fz 0
  have hlst := h.lst
  have HN : Aside (look xs (fresh last kind rma value now).key = none) := look_none.2 (fun m hm e => by have := h.keys m hm; change m.key = last + 1 at e; omega)
  have hSp := h.own
  have hUs : Upd S w (w.setCell ⟨p, 0, none⟩ (.int .i64 (last + 1))) := (upd_set (p := p) 0 (.int .i64 (last + 1))).mono (fun _ _ e => e ▸ hSp)
  have HB1 : Below (w.setCell ⟨p, 0, none⟩ (.int .i64 (last + 1))).heap.size (w.setCell ⟨p, 0, none⟩ (.int .i64 (last + 1))) ((w.setCell ⟨p, 0, none⟩ (.int .i64 (last + 1))).alloc (.cells #[.int .i64 msg0.key, .int .i64 msg0.kind, .int .i64 msg0.rma, .int .i64 msg0.value, .int .i64 msg0.tries, .int .i64 msg0.due] 31)) := upd_box _
  have e0 : (w.setCell ⟨p, 0, none⟩ (.int .i64 (last + 1))).heap.size = w.heap.size := setCell_size _ _ _
  have H1 : OutSt ((w.setCell ⟨p, 0, none⟩ (.int .i64 (last + 1))).alloc (.cells #[.int .i64 msg0.key, .int .i64 msg0.kind, .int .i64 msg0.rma, .int .i64 msg0.value, .int .i64 msg0.tries, .int .i64 msg0.due] 31)) p (fun k => S k ∧ k < w.heap.size) (last + 1) xs (xs.map tmOf) := (OutSt.bump h.lower hl).below HB1
  have X1 := MsgBox.made (w.setCell ⟨p, 0, none⟩ (.int .i64 (last + 1))) msg0
  rw [e0] at X1
  have HS : Aside _ := out_say H1 ⟨last + 1, kind, rma, value, 0, 0⟩ now (by dsimp only; omega) hfew (by rw [List.length_map]; omega) (by dsimp only; omega) hnow
  rw [said_fresh] at HS
  have HU1 : Aside (Upd S w ((w.setCell ⟨p, 0, none⟩ (.int .i64 (last + 1))).alloc (.cells #[.int .i64 msg0.key, .int .i64 msg0.kind, .int .i64 msg0.rma, .int .i64 msg0.value, .int .i64 msg0.tries, .int .i64 msg0.due] 31))) := hUs.alloc _
  have hs1 : ((w.setCell ⟨p, 0, none⟩ (.int .i64 (last + 1))).alloc (.cells #[.int .i64 msg0.key, .int .i64 msg0.kind, .int .i64 msg0.rma, .int .i64 msg0.value, .int .i64 msg0.tries, .int .i64 msg0.due] 31)).heap.size = w.heap.size + 1 := by simp
  have HF : Aside (∀ w1 w2 w3, w1.heap.size = w.heap.size + 1 → Upd S w w1 → Kept w1 p (fun k => S k ∧ k < w.heap.size) (last + 1) xs (xs.map tmOf) (fresh last kind rma value now) w2 → Upd (fun k => k = w.heap.size) w2 w3 → OutAt w3 p (More S w w3) (last + 1) (fresh last kind rma value now :: xs) ∧ Upd S w w3) := by
    intro w1 w2 w3 s1 u1 hk u3
    refine ⟨OutSt.added (out_lift (by omega) hk.1 (u3.mono (fun k _ e => ⟨by omega, by omega⟩))) HN.out, (u1.trans hk.2 (fun k _ x => x.1)).trans u3 (fun k hk e => by omega)⟩
  clear h hUs HB1 e0 H1 HN
  have E : fresh last kind rma value now = ⟨last + 1, kind, rma, value, 1, now + 1⟩ := rfl
  rw [E] at HS HF ⊢
  clear E
  unfold msg0 at *
  dsimp only at *
  go_enter Try.func10, Try.ntmps10
  go_wp2_with fail
  generalize (w.setCell ⟨p, 0, none⟩ (.int .i64 (last + 1))).alloc (.cells #[.int .i64 0, .int .i64 0, .int .i64 0, .int .i64 0, .int .i64 0, .int .i64 0] 31) = w1 at *
  refine Calls.mono HS.out ?_
  rintro e w2 ⟨rfl, hk⟩
  have X2 := X1.upd hk.2 (fun e => by omega)
  have HX : Aside _ := HF.out w1 w2 (set6 w2 w.heap.size ⟨last + 1, kind, rma, value, 1, now + 1⟩) hs1 HU1.out hk (set6_upd _ _ _)
  have HB : Aside _ := X2.set ⟨last + 1, kind, rma, value, 1, now + 1⟩
  obtain ⟨z0, z1, z2, z3, z4, z5⟩ := X2.cells
  have zf := X2.fz
  clear hk X1 X2 HS HU1 HF
  obtain ⟨g2, hg2⟩ : ∃ g2, g2 = w.heap.size := ⟨_, rfl⟩
  have HX' := HX.out
  have HB' := HB.out
  rw [← hg2] at z0 z1 z2 z3 z4 z5 zf HB' HX' ⊢
  clear hg2 HX HB
  have HX : Aside _ := HX'
  have HB : Aside _ := HB'
  clear HX' HB'
  unfold set6 at HX HB
  dsimp only at HX HB
  go_wp2
  refine bodyPost_ret (results_cell_row rfl _ _ g2 31 #[.int .i64 (last + 1), .int .i64 kind, .int .i64 rma, .int .i64 value, .int .i64 1, .int .i64 (now + 1)] (0, 0) _ rfl HB.out.at' Try.underlying31 rfl info_msg) rfl ?_
  exact ⟨rfl, HX.out⟩
theorem out_put_nil (kind rma value now : Int) (w : World) : Calls Try.prog 10 #[.pointer none, .int .i64 kind, .int .i64 rma, .int .i64 value, .int .i64 now] w fun e w' => e = .returned (.agg #[.int .i64 msg0.key, .int .i64 msg0.kind, .int .i64 msg0.rma, .int .i64 msg0.value, .int .i64 msg0.tries, .int .i64 msg0.due]) ∧ Below w.heap.size w w' := by
  unfold msg0
  dsimp only
  go_enter Try.func10, Try.ntmps10
  go_wp2
  refine bodyPost_ret (results_cell_row rfl _ _ _ _ _ _ _ rfl (heap_alloc_new w _) Try.underlying31 rfl info_msg) rfl ⟨rfl, upd_box _⟩
end Go.Proofs.Ytcnheikckfhniaa
