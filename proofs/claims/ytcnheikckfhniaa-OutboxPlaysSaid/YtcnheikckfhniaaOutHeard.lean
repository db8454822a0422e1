/-
  Package outbox: Heard. Conditions: those of each theorem.
-/
import Derived.Test.YtcnheikckfhniaaOutPut
namespace Go.Proofs.Ytcnheikckfhniaa
open Go.RowKit Go.Maps
set_option maxRecDepth 100000

theorem without_map (xs : List Msg) (a : Int) : without (xs.map tmOf) a = (wo xs a).map tmOf := by
  unfold without wo
  rw [List.filter_map]
  rfl
/-- A loop over a map goes on in a world in which the map and the loop's own block are as they were. -/
theorem ranges_block {H : Type} {P : Program} {k : TypeId} {R : Value → Option (DataW H × List MemPlace)} {w w' : World} {b r n : Nat} {D : DataW H} {left : Lit → Bool} {cnt : Nat} (h : w.ranges P k R b r n D left cnt) (hb : w'.heap[b]? = w.heap[b]?) (hr : w'.heap[r]? = w.heap[r]?) : w'.ranges P k R b r n D left cnt := by
  obtain ⟨es, clock, since, seen, c0, h1, F, h2, h3, h4, rest⟩ := h
  exact ⟨es, clock, since, seen, c0, hb.trans h1, F, h2, h3, hr.trans h4, rest⟩
/-- What a loop over the messages' map sees of a call that struck a key. -/
def Struck (w w' : World) (p : Nat) (S : Nat → Prop) (a : Int) : Prop :=
  ∀ b, w.cell? ⟨p, 1, none⟩ = some (.map (some b)) → ∀ r n D left cnt, ¬ S r → w.ranges Try.prog 3 rMsg b r n D left cnt → ∃ cnt', w'.ranges Try.prog 3 rMsg b r n (D.del (ik a)) (fun z => left z && !z.sameKey (ik a)) cnt' ∧ cnt' ≤ cnt
def HeardOf (w : World) (p : Nat) (S : Nat → Prop) (last : Int) (xs : List Msg) (a : Int) (w' : World) : Prop := OutAt w' p S last (wo xs a) ∧ Upd S w w' ∧ Struck w w' p S a ∧ w'.cell? ⟨p, 1, none⟩ = w.cell? ⟨p, 1, none⟩

theorem msg_extract0 (v u : Value) (w : World) : (Instr.extract (.tuple #[v, u]) 0).run Try.prog w = .ok v w := rfl

theorem if_t {α : Type} (x y : α) : (if true = true then x else y) = x := rfl
/-- Behind the striking, the stopping, and the stores into the call's own block. -/
theorem heard_of {w w0 w2 w3 w4 : World} {p b : Nat} {S T : Nat → Prop} {last : Int} {xs : List Msg} {ys zs : List Tm} {a : Int} (h : OutAt w p S last xs) (hpl : p < w.heap.size) (hTS : ∀ k, T k → S k) (hTp : T p) (hTl : ∀ k, T k → k < w.heap.size) (hyp : ys.Perm (xs.map tmOf)) (q1 : S b) (q2 : ¬ T b) (q3 : w.cell? ⟨p, 1, none⟩ = some (.map (some b))) (q4 : MsgMap w b xs)
    (B0 : Below w.heap.size w w0) (m2 : MsgMap w2 b (wo xs a)) (u2 : Upd (fun k => k = b) w0 w2)
    (str2 : ∀ r n D left cnt, w0.ranges Try.prog 3 rMsg b r n D left cnt → ∃ cnt', w2.ranges Try.prog 3 rMsg b r n (D.del (ik a)) (fun z => left z && !z.sameKey (ik a)) cnt' ∧ cnt' ≤ cnt)
    (z1 : TimSt w3 p 2 T zs) (z2 : zs.Perm (without ys a)) (z3 : UpdC p 2 T w2 w3) (u4 : Upd (fun k => k = w.heap.size) w3 w4) : HeardOf w p S last xs a w4 := by
  have hbp : b ≠ p := fun e => q2 (e ▸ hTp)
  have hp0 : p < w0.heap.size := Nat.lt_of_lt_of_le hpl B0.size
  have hp2 : p < w2.heap.size := Nat.lt_of_lt_of_le hp0 u2.size
  have hp3 : p < w3.heap.size := Nat.lt_of_lt_of_le hp2 z3.size
  have U03 : Upd S w w3 := (((Upd.below B0 (S := S)).trans (u2.mono (S' := S) (fun _ _ e => e ▸ q1)) (fun _ _ x => x))).trans z3.toUpd (fun k _ x => hTS k x)
  have c : ∀ j, j ≠ 2 → j ≠ 3 → w4.cell? ⟨p, j, none⟩ = w.cell? ⟨p, j, none⟩ := fun j h1 h2 =>
    (u4.cell (p := ⟨p, j, none⟩) hp3 (fun e => by have : p = w.heap.size := e; omega)).trans ((z3.rest hp2 j h1 h2).trans ((u2.cell (p := ⟨p, j, none⟩) hp0 (fun e => hbp e.symm)).trans (B0.cell (p := ⟨p, j, none⟩) hpl)))
  have hbl := q4.lt
  have hM : MsgMap w4 b (wo xs a) := (m2.upd z3.toUpd q2).upd u4 (fun e => by omega)
  refine ⟨?_, U03.trans (u4.mono (S' := fun k => k = w.heap.size) (fun _ _ x => x)) (fun k hk e => by omega), ?_, c 1 (by omega) (by omega)⟩
  · refine ⟨h.nd.less a, ?_, h.lst, fun m hm => h.keys m (wo_mem.1 hm).1, (c 0 (by omega) (by omega)).trans h.c0, fun j => ?_, T, zs, hTS, z1.upd u4 (fun k hk e => by have := hTl k hk; omega), ?_, .inr ⟨b, q1, q2, (c 1 (by omega) (by omega)).trans q3, hM⟩⟩
    · have := wo_length h.nd a
      have := h.few
      omega
    · exact (u4.frozen (p := ⟨p, j, none⟩) hp3 (fun e => by have : p = w.heap.size := e; omega)).trans ((z3.fz hp2 j).trans ((u2.frozen (p := ⟨p, j, none⟩) hp0 (fun e => hbp e.symm)).trans ((B0.frozen (p := ⟨p, j, none⟩) hpl).trans (h.fz j))))
    · rw [← without_map]
      exact z2.trans (without_perm hyp a)
  · intro b' hb' r n D left cnt hr hrg
    rw [q3] at hb'
    injection hb' with hb'
    injection hb' with hb'
    injection hb' with hb'
    subst hb'
    have hrl := hrg.lt
    obtain ⟨cnt', g1, g2⟩ := str2 r n D left cnt (ranges_block hrg (B0.block b hbl) (B0.block r hrl))
    have hr2 : r < w2.heap.size := Nat.lt_of_lt_of_le hrl (Nat.le_trans B0.size u2.size)
    exact ⟨cnt', ranges_block g1 ((u4.block b (Nat.lt_of_lt_of_le m2.lt z3.size) (fun e => by omega)).trans (z3.block b m2.lt q2)) ((u4.block r (Nat.lt_of_lt_of_le hr2 z3.size) (fun e => by omega)).trans (z3.block r hr2 (fun x => hr (hTS r x)))), g2⟩

set_option maxHeartbeats 4000000 in
theorem heard_made {w : World} {p b : Nat} {S T : Nat → Prop} {last : Int} {xs : List Msg} {ys : List Tm} (h : OutAt w p S last xs) (a : Int) (ha : W64 a) (hTS : ∀ k, T k → S k) (hT : TimSt w p 2 T ys) (hTl : ∀ k, T k → k < w.heap.size) (hyp : ys.Perm (xs.map tmOf)) (q1 : S b) (q2 : ¬ T b) (q3 : w.cell? ⟨p, 1, none⟩ = some (.map (some b))) (q4 : MsgMap w b xs) :
    Calls Try.prog 12 #[.pointer (some ⟨p, 0, none⟩), .int .i64 a] w fun e w' => e = .returned (.tuple #[.agg #[.int .i64 (got xs a).key, .int .i64 (got xs a).kind, .int .i64 (got xs a).rma, .int .i64 (got xs a).value, .int .i64 (got xs a).tries, .int .i64 (got xs a).due], .bool (look xs a).isSome]) ∧ HeardOf w p S last xs a w' := by
  have hpl := h.lt
  have k1 := q3
  have hv := (q4.below (upd_box (.cells #[.int .i64 msg0.key, .int .i64 msg0.kind, .int .i64 msg0.rma, .int .i64 msg0.value, .int .i64 msg0.tries, .int .i64 msg0.due] 31))).val ha true
  rw [if_t] at hv
  obtain ⟨w0, h0, e0, X0, Y0⟩ := two_boxes w msg0 (got xs a)
  have B0 : Below w.heap.size w w0 := h0.1
  have hM0 := q4.below B0
  obtain ⟨w2, rD, m2, t2, str2⟩ := hM0.del h.nd ha 0
  have u2 : Upd (fun k => k = b) w0 w2 := turned_upd t2
  have hT2 : TimSt w2 p 2 T ys := (hT.below B0).upd u2 (fun k hk e => q2 (e ▸ hk))
  have hbl := q4.lt
  have X2 := X0.upd u2 (fun e => by omega)
  have Y2 := Y0.upd u2 (fun e => by omega)
  have HS : Aside (Calls Try.prog 24 #[.pointer (some ⟨p, 2, none⟩), .int .i64 a] w2 _) := tim_stop hT2 a ha
  have HF : Aside (∀ w3 w4 zs, TimSt w3 p 2 T zs → zs.Perm (without ys a) → UpdC p 2 T w2 w3 → Upd (fun k => k = w.heap.size) w3 w4 → HeardOf w p S last xs a w4) :=
    fun w3 w4 zs z1 z2 z3 u4 => heard_of h hpl hTS hT.1 hTl hyp q1 q2 q3 q4 B0 m2 u2 str2 z1 z2 z3 u4
  have HTl : Aside (∀ k, T k → k < w.heap.size) := hTl
  have k1' := (B0.cell (p := ⟨p, 1, none⟩) hpl).trans q3
  clear h hT q3 q4 B0 hM0 m2 t2 str2 u2 hT2 X0 Y0 hTl hTS hyp
  generalize got xs a = m at *
  generalize (look xs a).isSome = ok at *
  obtain ⟨mk, mi, mr, mv, mt, mu⟩ := m
  unfold msg0 at *
  dsimp only at *
  rw [e0] at rD k1'
  clear e0
  go_enter Try.func12, Try.ntmps12
  go_wp2_with fail
  refine Calls.mono HS.out ?_
  rintro e w3 ⟨rfl, zs, z1, z2, z3⟩
  have X3 := X2.upd z3.toUpd (fun e => by have := HTl.out _ e; omega)
  have Y3 := Y2.upd z3.toUpd (fun e => by have := HTl.out _ e; omega)
  have HX : Aside _ := HF.out w3 (set6 w3 w.heap.size ⟨mk, mi, mr, mv, mt, mu⟩) zs z1 z2 z3 (set6_upd _ _ _)
  have HB : Aside _ := X3.set ⟨mk, mi, mr, mv, mt, mu⟩
  obtain ⟨x0, x1, x2, x3, x4, x5⟩ := X3.cells
  obtain ⟨y0, y1, y2, y3, y4, y5⟩ := Y3.cells
  have zf := X3.fz
  clear z1 z2 z3 X3 Y3 X2 Y2 HS HF HTl hv rD k1 k1' h0 hpl hbl
  obtain ⟨g2, hg2⟩ : ∃ g2, g2 = w.heap.size := ⟨_, rfl⟩
  have HX' := HX.out
  have HB' := HB.out
  rw [← hg2] at x0 x1 x2 x3 x4 x5 y0 y1 y2 y3 y4 y5 zf HB' HX' ⊢
  generalize g2 + 1 = g3 at y0 y1 y2 y3 y4 y5 ⊢
  clear hg2 HX HB
  have HX : Aside _ := HX'
  have HB : Aside _ := HB'
  clear HX' HB'
  unfold set6 at HX HB
  dsimp only at HX HB x0 x1 x2 x3 x4 x5 y0 y1 y2 y3 y4 y5
  go_wp2
  refine bodyPost_ret (results_row_tmp rfl _ _ g2 31 #[.int .i64 mk, .int .i64 mi, .int .i64 mr, .int .i64 mv, .int .i64 mt, .int .i64 mu] (0, 0) _ rfl HB.out.at' Try.underlying31 rfl info_msg) rfl ?_
  exact ⟨rfl, HX.out⟩

set_option maxHeartbeats 4000000 in
theorem heard_bare {w : World} {p : Nat} {S T : Nat → Prop} {last : Int} {ys : List Tm} (h : OutAt w p S last []) (a : Int) (ha : W64 a) (hTS : ∀ k, T k → S k) (hT : TimSt w p 2 T ys) (hTl : ∀ k, T k → k < w.heap.size) (hyp : ys.Perm []) (q3 : w.cell? ⟨p, 1, none⟩ = some (.map none)) :
    Calls Try.prog 12 #[.pointer (some ⟨p, 0, none⟩), .int .i64 a] w fun e w' => e = .returned (.tuple #[.agg #[.int .i64 msg0.key, .int .i64 msg0.kind, .int .i64 msg0.rma, .int .i64 msg0.value, .int .i64 msg0.tries, .int .i64 msg0.due], .bool false]) ∧ HeardOf w p S last [] a w' := by
  have hpl := h.lt
  have k1 := q3
  have hv := msg_val_nil (w := w.alloc (.cells #[.int .i64 msg0.key, .int .i64 msg0.kind, .int .i64 msg0.rma, .int .i64 msg0.value, .int .i64 msg0.tries, .int .i64 msg0.due] 31)) ha true
  rw [if_t] at hv
  obtain ⟨w0, h0, e0, X2, Y2⟩ := two_boxes w msg0 msg0
  have B0 : Below w.heap.size w w0 := h0.1
  have rD := msg_del_nil (w := w0) ha 0
  have HS : Aside (Calls Try.prog 24 #[.pointer (some ⟨p, 2, none⟩), .int .i64 a] w0 _) := tim_stop (hT.below B0) a ha
  have HF : Aside (∀ w3 w4 zs, TimSt w3 p 2 T zs → zs.Perm (without ys a) → UpdC p 2 T w0 w3 → Upd (fun k => k = w.heap.size) w3 w4 → HeardOf w p S last [] a w4) := by
    intro w3 w4 zs z1 z2 z3 u4
    have hp0 : p < w0.heap.size := Nat.lt_of_lt_of_le hpl B0.size
    have hp3 : p < w3.heap.size := Nat.lt_of_lt_of_le hp0 z3.size
    have c : ∀ j, j ≠ 2 → j ≠ 3 → w4.cell? ⟨p, j, none⟩ = w.cell? ⟨p, j, none⟩ := fun j h1 h2 =>
      (u4.cell (p := ⟨p, j, none⟩) hp3 (fun e => by have : p = w.heap.size := e; omega)).trans ((z3.rest hp0 j h1 h2).trans (B0.cell (p := ⟨p, j, none⟩) hpl))
    refine ⟨⟨List.Pairwise.nil, by simp [wo], h.lst, fun _ hm => (by cases hm), (c 0 (by omega) (by omega)).trans h.c0, fun j => ?_, T, zs, hTS, z1.upd u4 (fun k hk e => by have := hTl k hk; omega), ?_, .inl ⟨rfl, (c 1 (by omega) (by omega)).trans q3⟩⟩, (((Upd.below B0 (S := S)).trans z3.toUpd (fun k _ x => hTS k x))).trans u4 (fun k hk e => by omega), fun b hb => ?_, c 1 (by omega) (by omega)⟩
    · exact (u4.frozen (p := ⟨p, j, none⟩) hp3 (fun e => by have : p = w.heap.size := e; omega)).trans ((z3.fz hp0 j).trans ((B0.frozen (p := ⟨p, j, none⟩) hpl).trans (h.fz j)))
    · exact z2.trans (without_perm hyp a)
    · rw [q3] at hb
      cases hb
  have HTl : Aside (∀ k, T k → k < w.heap.size) := hTl
  have k1' := (B0.cell (p := ⟨p, 1, none⟩) hpl).trans q3
  clear h hT q3 B0 hTl hTS hyp
  have hbl := hpl
  unfold msg0 at *
  dsimp only at *
  rw [e0] at rD k1'
  have E0 : Hid _ := e0
  clear e0
  go_enter Try.func12, Try.ntmps12
  go_wp2_with fail
  rw [← E0.out]
  clear E0
  refine Calls.mono HS.out ?_
  rintro e w3 ⟨rfl, zs, z1, z2, z3⟩
  have X3 := X2.upd z3.toUpd (fun e => by have := HTl.out _ e; omega)
  have Y3 := Y2.upd z3.toUpd (fun e => by have := HTl.out _ e; omega)
  have HX : Aside _ := HF.out w3 (set6 w3 w.heap.size ⟨0, 0, 0, 0, 0, 0⟩) zs z1 z2 z3 (set6_upd _ _ _)
  have HB : Aside _ := X3.set ⟨0, 0, 0, 0, 0, 0⟩
  obtain ⟨x0, x1, x2, x3, x4, x5⟩ := X3.cells
  obtain ⟨y0, y1, y2, y3, y4, y5⟩ := Y3.cells
  have zf := X3.fz
  clear z1 z2 z3 X3 Y3 X2 Y2 HS HF HTl hv rD k1 k1' h0 hpl hbl
  obtain ⟨g2, hg2⟩ : ∃ g2, g2 = w.heap.size := ⟨_, rfl⟩
  have HX' := HX.out
  have HB' := HB.out
  rw [← hg2] at x0 x1 x2 x3 x4 x5 y0 y1 y2 y3 y4 y5 zf HB' HX' ⊢
  generalize g2 + 1 = g3 at y0 y1 y2 y3 y4 y5 ⊢
  clear hg2 HX HB
  have HX : Aside _ := HX'
  have HB : Aside _ := HB'
  clear HX' HB'
  unfold set6 at HX HB
  dsimp only at HX HB x0 x1 x2 x3 x4 x5 y0 y1 y2 y3 y4 y5
  go_wp2
  refine bodyPost_ret (results_row_tmp rfl _ _ g2 31 #[.int .i64 0, .int .i64 0, .int .i64 0, .int .i64 0, .int .i64 0, .int .i64 0] (0, 0) _ rfl HB.out.at' Try.underlying31 rfl info_msg) rfl ?_
  exact ⟨rfl, HX.out⟩

theorem out_heard {w : World} {p : Nat} {S : Nat → Prop} {last : Int} {xs : List Msg} (h : OutAt w p S last xs) (a : Int) (ha : W64 a) :
    Calls Try.prog 12 #[.pointer (some ⟨p, 0, none⟩), .int .i64 a] w fun e w' => e = .returned (.tuple #[.agg #[.int .i64 (got xs a).key, .int .i64 (got xs a).kind, .int .i64 (got xs a).rma, .int .i64 (got xs a).value, .int .i64 (got xs a).tries, .int .i64 (got xs a).due], .bool (look xs a).isSome]) ∧ HeardOf w p S last xs a w' := by
  obtain ⟨T, ys, hTS, hT, hyp, h4⟩ := h.st
  rcases h4 with ⟨e, q⟩ | ⟨b, q1, q2, q3, q4⟩
  · subst e
    exact heard_bare h a ha (fun k x => hTS k x.1) hT.lower (fun k x => x.2) hyp q
  · exact heard_made h a ha (fun k x => hTS k x.1) hT.lower (fun k x => x.2) hyp q1 (fun x => q2 x.1) q3 q4
theorem out_heard_nil (a : Int) (w : World) : Calls Try.prog 12 #[.pointer none, .int .i64 a] w fun e w' => e = .returned (.tuple #[.agg #[.int .i64 msg0.key, .int .i64 msg0.kind, .int .i64 msg0.rma, .int .i64 msg0.value, .int .i64 msg0.tries, .int .i64 msg0.due], .bool false]) ∧ Below w.heap.size w w' := by
  unfold msg0
  dsimp only
  go_enter Try.func12, Try.ntmps12
  go_wp2
  refine bodyPost_ret (results_row_tmp rfl _ _ _ _ _ _ _ rfl (heap_alloc_new w _) Try.underlying31 rfl info_msg) rfl ⟨rfl, upd_box _⟩
end Go.Proofs.Ytcnheikckfhniaa
