/-
  Package timer: the queue's Push, Pop. Conditions: those of each theorem.
-/
import Derived.Test.YtcnheikckfhniaaTq
import Derived.Deep.RegionHeld3
import Derived.Deep.AppendLies
namespace Go.Proofs.Ytcnheikckfhniaa
open Go.RowKit
set_option maxRecDepth 100000

theorem info_timer : (Try.prog.info? 80).map (fun i => (i.zero, i.size, i.bytes)) = some (some (.agg #[.int .i64 0, .int .i64 0]), 2, 16) := by kernel_rfl
/-- The cells of the one that is appended. -/
theorem one_cells (w : World) (x : Tm) : ∀ j u, ([.int .i64 x.1, .int .i64 x.2] : List Value)[j]? = some u → (w.alloc (.cells #[.int .i64 x.1, .int .i64 x.2] 80)).cell? ((⟨w.heap.size, 0, none⟩ : Addr).add j) = some u := fun j u hj => by
  have := (arr_new w #[.int .i64 x.1, .int .i64 x.2] 80).cells j u (by simpa using hj)
  rw [add_zero_addr]
  simpa using this
theorem one_one (x : Tm) : ∀ u ∈ ([.int .i64 x.1, .int .i64 x.2] : List Value), u.oneCell' = true := by
  intro u hu
  simp only [List.mem_cons, List.not_mem_nil, or_false] at hu
  rcases hu with rfl | rfl <;> rfl

theorem push_done {w2 w9 : World} {p o m n c9 : Nat} {a9 : Option Addr} {V : Value} {xs : List Tm} {x : Tm} {ix : Int → Option Nat} (hp : p < w2.heap.size) (k1 : w2.cell? ⟨p, o + 1, none⟩ = some (.map (some m))) (kf : ∀ j, w2.frozen? ⟨p, j, none⟩ = false) (k0 : ∃ v, w2.cell? ⟨p, o, none⟩ = some v)
    (M2 : MapIs w2 m (n + 1) ix) (hix : IxOk (xs ++ [x]) ix) (hn : xs.length = n) (h64 : ∀ y ∈ xs ++ [x], W64 y.2) (few : n < 1000)
    (r1 : w9.ownsRow 0 80 2 (.slice a9 (n + 1) c9) (n + 1) (tcells xs ++ [.int .i64 x.1, .int .i64 x.2])) (u9 : Upd (fun q => V.ownBlock = some q) w2 w9) (hVp : V.ownBlock ≠ some p) (hVm : V.ownBlock ≠ some m)
    (r3 : ∀ q, (Value.slice a9 (n + 1) c9).ownBlock = some q → V.ownBlock = some q ∨ w2.heap.size ≤ q) :
    ∃ g', TimAt (w9.setCell ⟨p, o, none⟩ (.slice a9 (n + 1) c9)) p o g' m c9 (xs ++ [x]) ∧ UpdC p o (fun q => q = p ∨ V.ownBlock = some q) w2 (w9.setCell ⟨p, o, none⟩ (.slice a9 (n + 1) c9)) ∧ (V.ownBlock = some g' ∨ w2.heap.size ≤ g') := by
  obtain ⟨g', cap, hv, _, hg⟩ := r1.form (by omega)
  injection hv with e1 e2 e3
  subst e1 e3
  have r3' := r3 g' rfl
  have pg : p ≠ g' := by
    rintro rfl
    rcases r3' with e | e
    · exact hVp e
    · omega
  have hu : UpdC p o (fun q => q = p ∨ V.ownBlock = some q) w2 (w9.setCell ⟨p, o, none⟩ (.slice (some ⟨g', 0, none⟩) (n + 1) c9)) := ((u9.part hVp).mono (fun _ _ x => .inr x)).setCell (.inl rfl) (.inl rfl) _
  obtain ⟨v, k0⟩ := k0
  have k0' := (u9.cell (p := ⟨p, o, none⟩) hp hVp).trans k0
  have hl : (xs ++ [x]).length = n + 1 := by rw [List.length_append, hn]; rfl
  have k1' : (w9.setCell ⟨p, o, none⟩ (.slice (some ⟨g', 0, none⟩) (n + 1) c9)).cell? ⟨p, o + 1, none⟩ = some (.map (some m)) := (cell_other (by omega)).trans ((u9.cell (p := ⟨p, o + 1, none⟩) hp hVp).trans k1)
  have pm : p ≠ m := by
    rintro rfl
    have := M2.noCells (o + 1)
    rw [k1] at this
    cases this
  refine ⟨g', ⟨⟨Nat.lt_of_lt_of_le hp hu.size, by rw [hl]; exact cell_same k0', k1', fun j => by rw [World.frozen?_setCell]; exact (u9.frozen (p := ⟨p, j, none⟩) hp hVp).trans (kf j), ?_, pg, h64, by omega⟩, ix, ?_, hix⟩, hu, r3'⟩
  · rw [hl, tcells_append]
    exact ownsRow_upd (S := fun k => k = p) r1 (upd_set _ _) (fun k hk => by cases hk; exact fun e => pg e.symm)
  · rw [hl]
    exact M2.upd hu.toUpd (fun e => e.elim (fun e => pm e.symm) hVm)

theorem assert_timer (w : World) (v : Value) : (Instr.typeAssert (.iface 80 v) 20 80 false).run Try.prog w = .ok v w := by
  simp [Instr.typeAssert, run_underlying Try.underlying80, go_sem, Result.andThen]

set_option maxHeartbeats 4000000 in
theorem q_push {w : World} {p o g m c : Nat} {xs : List Tm} (h : TimAt w p o g m c xs) (x : Tm) (hx : W64 x.2) (hno : ∀ i, i < xs.length → (tget xs i).2 ≠ x.2) (hfew : xs.length < 1000) :
    Calls Try.prog 89 #[.pointer (some ⟨p, o, none⟩), .iface 80 (.agg #[.int .i64 x.1, .int .i64 x.2])] w fun e w' => e = .returned (.tuple #[]) ∧ ∃ g' c', TimAt w' p o g' m c' (xs ++ [x]) ∧ UpdC p o (fun k => k = p ∨ k = g ∨ k = m) w w' ∧ (g' = g ∨ w.heap.size ≤ g') := by
  have h0 := h.c0
  have h1 := h.c1
  have HT : Aside _ := h
  obtain ⟨ix, hm, hix⟩ := h.mp
  obtain ⟨gm, pm⟩ := h.gm
  have pg := h.pg
  have hpl := h.lt
  have hno2 : ix x.2 = none := by
    cases e : ix x.2 with
    | none => rfl
    | some i => obtain ⟨a, b⟩ := hix.no _ _ e; exact absurd b (hno i a)
  have HIX : Aside _ := hix.push hno2
  have HM : Aside (MapIs w m xs.length ix) := hm
  have hrow := h.row
  have hfz := h.fz o
  have hw64 : Aside _ := h.w64
  have hfzs : Aside _ := h.fz
  clear h hix hm
  have qm : ∀ (w : World) (r : Option Nat), (binOp .eql 55 (.map r) (.map none)).run Try.prog w = .ok (.bool r.isNone) w := fun w r => run_eql_map_nil w _ _ _ r Try.underlying55
  obtain ⟨d, a⟩ := x
  dsimp only at *
  have ta := fun w => assert_timer w (.agg #[.int .i64 d, .int .i64 a])
  go_enter Try.func89, Try.ntmps89
  go_wp2
  have u1 : Below w.heap.size w (w.alloc (.cells #[.int .i64 d, .int .i64 a] 80)) := upd_box _
  have b0 : (w.alloc (.cells #[.int .i64 d, .int .i64 a] 80)).cell? ⟨w.heap.size, 0, none⟩ = some (.int .i64 d) := (arr_new w _ _).cells 0 _ rfl
  have b1 : (w.alloc (.cells #[.int .i64 d, .int .i64 a] 80)).cell? ⟨w.heap.size, 1, none⟩ = some (.int .i64 a) := (arr_new w _ _).cells 1 _ rfl
  have hB1 : w.heap.size < (w.alloc (.cells #[.int .i64 d, .int .i64 a] 80)).heap.size := by simp
  have hBm : Hid (w.heap.size ≠ m) := Nat.ne_of_gt HM.out.lt
  have hBp : Hid (w.heap.size ≠ p) := Nat.ne_of_gt hpl
  have hBs : Aside (∀ k, w.heap.size ≤ k → w.heap.size ≤ k) := fun _ x => x
  generalize w.alloc (.cells #[.int .i64 d, .int .i64 a] 80) = w1 at *
  have k0 := (u1.cell (p := ⟨p, o, none⟩) hpl).trans h0
  have k1 := (u1.cell (p := ⟨p, o + 1, none⟩) hpl).trans h1
  have hm1 : MapIs w1.drew m xs.length ix := HM.out.upd (S := fun _ => False) (Upd.below u1).drew (fun x => x)
  obtain ⟨w2, rU, m2, t2⟩ := hm1.put (i := xs.length) (by unfold maxLen; omega) hx (w64_nat (by omega))
  rw [hno2] at m2
  have u2 : Upd (fun k => k = m) w1 w2 := (Upd.refl _ _).drew.trans (turned_upd t2) (fun _ _ x => x)
  have hp1 : p < w1.heap.size := Nat.lt_of_lt_of_le hpl u1.size
  have c0 := (u2.cell (p := ⟨p, o, none⟩) hp1 pm).trans k0
  have y0 := (u2.cell (p := ⟨w.heap.size, 0, none⟩) hB1 hBm.out).trans b0
  have y1 := (u2.cell (p := ⟨w.heap.size, 1, none⟩) hB1 hBm.out).trans b1
  have hr2 : w2.ownsRow 0 80 2 (.slice (some ⟨g, 0, none⟩) xs.length c) xs.length (tcells xs) :=
    ownsRow_upd (S := fun k => k = m) (ownsRow_upd (S := fun _ => False) hrow (Upd.below u1) (fun _ _ x => x)) u2 (fun k hk => by cases hk; exact gm)
  have u02 : Upd (fun k => k = m) w w2 := (Upd.below u1).trans u2 (fun _ _ x => x)
  have f0 : w2.frozen? ⟨p, o, none⟩ = false := (u02.frozen (p := ⟨p, o, none⟩) hpl pm).trans hfz
  have hp2 : p < w2.heap.size := Nat.lt_of_lt_of_le hpl u02.size
  have M2 : Aside (MapIs w2 m (xs.length + 1) (ixPut ix a xs.length)) := m2
  have U02 : Aside _ := u02
  have K1 : Aside (w2.cell? ⟨p, o + 1, none⟩ = some (.map (some m))) := (u02.cell (p := ⟨p, o + 1, none⟩) hpl pm).trans h1
  have KF : Aside (∀ j, w2.frozen? ⟨p, j, none⟩ = false) := fun j => (u02.frozen (p := ⟨p, j, none⟩) hpl pm).trans (hfzs.out j)
  have H64 : Aside (∀ y ∈ xs ++ [(d, a)], W64 y.2) := fun y hy => by
    rcases List.mem_append.1 hy with hy | hy
    · exact hw64.out y hy
    · rw [List.mem_singleton.1 hy]; exact hx
  have HB2 : Hid (w.heap.size ≤ w2.heap.size) := u02.size
  have hal := ownsRow_alloc hr2 (.cells #[.int .i64 d, .int .i64 a] 80)
  have hun := one_cells w2 (d, a)
  have ho1 := one_one (d, a)
  dsimp only at hun ho1
  have hc1 : xs.length + 1 ≤ maxLen := by unfold maxLen; omega
  have hc2 : (xs.length + 1) * 16 ≤ 140737488355328 := by omega
  clear HM u1 hm1 m2 t2 u2 hrow h0 h1 hB1 hBm hBp hBs hr2 u02 hno hno2 hfz
  have HB2' := HB2
  clear HB2 hpl
  generalize w.heap.size = B at b0 b1 y0 y1 ⊢
  go_upto_region 3 with (fail)
  go_region
  clear b0 b1 k0 k1 rU
  go_wp2_with fail
  go_region_law ((refine step_append_row (by rfl) _ _ 54 (by rfl) 0 80 _ 2 16 Try.underlying54 info_timer rfl (by decide) (.slice (some ⟨g, 0, none⟩) xs.length c) xs.length (tcells xs) (by kernel_rfl) hal ⟨w2.heap.size, 0, none⟩ 1 _ (by kernel_rfl) rfl hun ho1 (xs.length + 1) rfl hc1 hc2 (Nat.zero_le _) ?_; intro a9 c9 w9 r1 r2 r3; have u9 : Upd (fun q => (Value.slice (some ⟨g, 0, none⟩) xs.length c).ownBlock = some q) w2 w9 := ((Upd.refl _ w2).alloc _).drew.grown r2 (fun k hk => .inl hk); have c9p := (u9.cell (p := ⟨p, o, none⟩) hp2 (fun e => by cases e; exact pg rfl)).trans c0; have f9p := (u9.frozen (p := ⟨p, o, none⟩) hp2 (fun e => by cases e; exact pg rfl)).trans f0))
  all_goals
    go_end0
    obtain ⟨g', t1, t2, t3⟩ := push_done (V := .slice (some ⟨g, 0, none⟩) xs.length c) (x := (d, a)) hp2 K1.out KF.out ⟨_, c0⟩ M2.out HIX.out rfl H64.out hfew r1 u9 (fun e => by cases e; exact pg rfl) (fun e => by cases e; exact gm rfl) (fun q hq => (r3 q hq).imp (fun x => x) (fun e => by rw [e]; simp))
    refine ⟨rfl, g', c9, t1, ((U02.out.part pm).mono (fun _ _ x => .inr (.inr x))).trans t2 (fun k _ hk => hk.elim .inl (fun e => by cases e; exact .inr (.inl rfl))), t3.imp (fun e => by cases e; rfl) (fun e => Nat.le_trans HB2'.out e)⟩

set_option maxHeartbeats 4000000 in
theorem q_push_new {w : World} {p o : Nat} (hpl : p < w.heap.size) (h0 : w.cell? ⟨p, o, none⟩ = some (.slice none 0 0)) (h1 : w.cell? ⟨p, o + 1, none⟩ = some (.map none)) (hfz : ∀ j, w.frozen? ⟨p, j, none⟩ = false) (x : Tm) (hx : W64 x.2) :
    Calls Try.prog 89 #[.pointer (some ⟨p, o, none⟩), .iface 80 (.agg #[.int .i64 x.1, .int .i64 x.2])] w fun e w' => e = .returned (.tuple #[]) ∧ ∃ g' m' c', TimAt w' p o g' m' c' [x] ∧ UpdC p o (fun k => k = p) w w' ∧ w.heap.size ≤ g' ∧ w.heap.size ≤ m' := by
  have qm : ∀ (w : World) (r : Option Nat), (binOp .eql 55 (.map r) (.map none)).run Try.prog w = .ok (.bool r.isNone) w := fun w r => run_eql_map_nil w _ _ _ r Try.underlying55
  have hmm := @run_makeMap Try.prog
  have f1 := hfz (o + 1)
  have HFZ : Aside (∀ j, w.frozen? ⟨p, j, none⟩ = false) := hfz
  clear hfz
  obtain ⟨d, a⟩ := x
  dsimp only at *
  have ta := fun w => assert_timer w (.agg #[.int .i64 d, .int .i64 a])
  go_enter Try.func89, Try.ntmps89
  go_wp2
  have hU0 : UpdC p o (fun k => k = p) w (w.setCell ⟨p, o + 1, none⟩ (.map (some (w.heap.size + 1)))) := (UpdC.refl p o (fun k => k = p) w).setCell rfl (.inr rfl) _
  have e0 : (w.setCell ⟨p, o + 1, none⟩ (.map (some (w.heap.size + 1)))).heap.size = w.heap.size := setCell_size _ _ _
  have hU1 : UpdC p o (fun k => k = p) w (((w.setCell ⟨p, o + 1, none⟩ (.map (some (w.heap.size + 1)))).alloc (.cells #[.int .i64 d, .int .i64 a] 80)).alloc (.map #[] 0)) := (hU0.alloc _).alloc _
  have k0 : (((w.setCell ⟨p, o + 1, none⟩ (.map (some (w.heap.size + 1)))).alloc (.cells #[.int .i64 d, .int .i64 a] 80)).alloc (.map #[] 0)).cell? ⟨p, o, none⟩ = some (.slice none 0 0) := by
    rw [World.cell?_alloc_past _ _ _ (by simp; omega), World.cell?_alloc_past _ _ _ (by simp; omega), cell_other (by omega)]
    exact h0
  have k1 : (((w.setCell ⟨p, o + 1, none⟩ (.map (some (w.heap.size + 1)))).alloc (.cells #[.int .i64 d, .int .i64 a] 80)).alloc (.map #[] 0)).cell? ⟨p, o + 1, none⟩ = some (.map (some (w.heap.size + 1))) := by
    rw [World.cell?_alloc_past _ _ _ (by simp; omega), World.cell?_alloc_past _ _ _ (by simp; omega)]
    exact cell_same h1
  have kf : ∀ j, (((w.setCell ⟨p, o + 1, none⟩ (.map (some (w.heap.size + 1)))).alloc (.cells #[.int .i64 d, .int .i64 a] 80)).alloc (.map #[] 0)).frozen? ⟨p, j, none⟩ = false := fun j => by
    have b2 := below_two (w.setCell ⟨p, o + 1, none⟩ (.map (some (w.heap.size + 1)))) (.cells #[.int .i64 d, .int .i64 a] 80) (.map #[] 0)
    rw [b2.frozen (p := ⟨p, j, none⟩) (by rw [e0]; exact hpl), World.frozen?_setCell]
    exact HFZ.out j
  have A1 := arr_new (w.setCell ⟨p, o + 1, none⟩ (.map (some (w.heap.size + 1)))) #[.int .i64 d, .int .i64 a] 80
  rw [e0] at A1
  have A2 := A1.grown (upd_box (.map #[] 0))
  have b0 := A2.cells 0 _ rfl
  have b1 := A2.cells 1 _ rfl
  have hM := MapIs.made ((w.setCell ⟨p, o + 1, none⟩ (.map (some (w.heap.size + 1)))).alloc (.cells #[.int .i64 d, .int .i64 a] 80))
  rw [show ((w.setCell ⟨p, o + 1, none⟩ (.map (some (w.heap.size + 1)))).alloc (.cells #[.int .i64 d, .int .i64 a] 80)).heap.size = w.heap.size + 1 by simp] at hM
  have hB1 : w.heap.size < (((w.setCell ⟨p, o + 1, none⟩ (.map (some (w.heap.size + 1)))).alloc (.cells #[.int .i64 d, .int .i64 a] 80)).alloc (.map #[] 0)).heap.size := by simp; omega
  have HMG : Hid (w.heap.size ≤ w.heap.size + 1) := Nat.le_succ _
  clear A1 A2 e0 h0 h1 hU0 f1
  generalize ((w.setCell ⟨p, o + 1, none⟩ (.map (some (w.heap.size + 1)))).alloc (.cells #[.int .i64 d, .int .i64 a] 80)).alloc (.map #[] 0) = w1 at *
  have hBm : Hid (w.heap.size ≠ w.heap.size + 1) := by show _ ≠ _; omega
  have pm : p ≠ w.heap.size + 1 := by omega
  generalize w.heap.size + 1 = m at *
  have hm1 : MapIs w1.drew m 0 (fun _ => none) := hM.upd (S := fun _ => False) (Upd.refl _ _).drew (fun x => x)
  obtain ⟨w2, rU, m2, t2⟩ := hm1.put (i := 0) (by unfold maxLen; omega) hx (w64_nat (by omega))
  change Sem.run _ (Instr.mapUpdate _ _ _ (Value.int .i64 0)) _ = _ at rU
  have u2 : Upd (fun k => k = m) w1 w2 := (Upd.refl _ _).drew.trans (turned_upd t2) (fun _ _ x => x)
  have hp1 : p < w1.heap.size := Nat.lt_of_lt_of_le hpl hU1.size
  have c0 := (u2.cell (p := ⟨p, o, none⟩) hp1 pm).trans k0
  have y0 := (u2.cell (p := ⟨w.heap.size, 0, none⟩) hB1 hBm.out).trans b0
  have y1 := (u2.cell (p := ⟨w.heap.size, 1, none⟩) hB1 hBm.out).trans b1
  have hp2 : p < w2.heap.size := Nat.lt_of_lt_of_le hp1 u2.size
  have f0 : w2.frozen? ⟨p, o, none⟩ = false := (u2.frozen (p := ⟨p, o, none⟩) hp1 pm).trans (kf o)
  have K1 : Aside (w2.cell? ⟨p, o + 1, none⟩ = some (.map (some m))) := (u2.cell (p := ⟨p, o + 1, none⟩) hp1 pm).trans k1
  have KF : Aside (∀ j, w2.frozen? ⟨p, j, none⟩ = false) := fun j => (u2.frozen (p := ⟨p, j, none⟩) hp1 pm).trans (kf j)
  have M2 : Aside (MapIs w2 m (0 + 1) (ixPut (fun _ => none) a 0)) := m2
  have U02 : Aside (UpdC p o (fun k => k = p) w w2) := hU1.trans (u2.part pm) (fun k hk e => by subst e; exact absurd hk (by have := HMG.out; omega))
  have HB2 : Hid (w.heap.size ≤ w2.heap.size) := Nat.le_trans hU1.size u2.size
  have HIX : Aside (IxOk ([] ++ [(d, a)]) (ixPut (fun _ => none) a 0)) := IxOk.push (xs := []) (x := (d, a)) ⟨fun i hi => absurd hi (Nat.not_lt_zero _), fun _ _ h => by cases h⟩ rfl
  have H64 : Aside (∀ y ∈ ([] : List Tm) ++ [(d, a)], W64 y.2) := fun y hy => by
    rw [List.nil_append] at hy
    rw [List.mem_singleton.1 hy]; exact hx
  have hal := ownsRow_alloc (World.ownsRow_nil w2 0 80 2) (.cells #[.int .i64 d, .int .i64 a] 80)
  have hun := one_cells w2 (d, a)
  have ho1 := one_one (d, a)
  dsimp only at hun ho1
  clear hM hm1 m2 t2 u2 hB1 hBm hp1 kf
  have HB2' := HB2
  have HMG' := HMG
  clear HB2 HMG hpl hU1
  generalize w.heap.size = B at b0 b1 y0 y1 ⊢
  go_upto_region 3 with (fail)
  go_region
  clear b0 b1 k0 k1 rU
  go_wp2_with fail
  go_region_law ((refine step_append_row (by rfl) _ _ 54 (by rfl) 0 80 _ 2 16 Try.underlying54 info_timer rfl (by decide) (.slice none 0 0) 0 [] (by kernel_rfl) hal ⟨w2.heap.size, 0, none⟩ 1 _ (by kernel_rfl) rfl hun ho1 1 rfl (by decide) (by decide) (Nat.zero_le _) ?_; intro a9 c9 w9 r1 r2 r3; have u9 : Upd (fun q => (Value.slice none 0 0).ownBlock = some q) w2 w9 := ((Upd.refl _ w2).alloc _).drew.grown r2 (fun k hk => .inl hk); have c9p := (u9.cell (p := ⟨p, o, none⟩) hp2 (fun e => by cases e)).trans c0; have f9p := (u9.frozen (p := ⟨p, o, none⟩) hp2 (fun e => by cases e)).trans f0))
  all_goals
    go_end0
    obtain ⟨g', t1, t2, t3⟩ := push_done (V := .slice none 0 0) (xs := []) (n := 0) (x := (d, a)) hp2 K1.out KF.out ⟨_, c0⟩ M2.out HIX.out rfl H64.out (by omega) r1 u9 (fun e => by cases e) (fun e => by cases e) (fun q hq => (r3 q hq).imp (fun x => x) (fun e => by rw [e]; simp))
    refine ⟨rfl, g', m, c9, t1, U02.out.trans t2 (fun k _ hk => hk.elim (fun x => x) (fun e => by cases e)), t3.elim (fun e => by cases e) (fun e => Nat.le_trans HB2'.out e), HMG'.out⟩
theorem own_take {w : World} {base g n c : Nat} {e : TypeId} {xs : List Tm} (h : w.ownsRow base e 2 (.slice (some ⟨g, 0, none⟩) (n + 1) c) (n + 1) (tcells xs)) (hn : xs.length = n + 1) : w.ownsRow base e 2 (.slice (some ⟨g, 0, none⟩) n c) n (tcells (xs.take n)) := by
  rcases h.2 with ⟨h2, _⟩ | ⟨g', cap, cur, h2, h3, h4, h5, h6, h7, h8⟩
  · cases h2
  · injection h2 with e1 e2 e3
    injection e1 with e1
    injection e1 with e1
    subst e1 e3
    refine ⟨by rw [tcells_length, List.length_take]; omega, .inr ⟨g, c, cur, rfl, h3, h4, by omega, h6, h7, ?_⟩⟩
    rw [← tcells_take, ← h8, List.take_take]
    congr 1
    omega
theorem own_cap {w : World} {base g n c sz : Nat} {e : TypeId} {xs : List Value} (h : w.ownsRow base e sz (.slice (some ⟨g, 0, none⟩) n c) n xs) : n ≤ c ∧ c ≤ maxLen := by
  rcases h.2 with ⟨h2, _⟩ | ⟨g', cap, cur, h2, h3, h4, h5, h6, h7, h8⟩
  · cases h2
  · injection h2 with e1 e2 e3
    subst e3
    exact ⟨h5, h6⟩
set_option maxHeartbeats 4000000 in
theorem q_pop {w : World} {p o g m c : Nat} {xs : List Tm} (h : TimAt w p o g m c xs) {n : Nat} (hn : xs.length = n + 1) :
    Calls Try.prog 88 #[.pointer (some ⟨p, o, none⟩)] w fun e w' => (∃ v, e = .returned v) ∧ TimAt w' p o g m c (xs.take n) ∧ UpdC p o (fun k => k = p ∨ k = m) w w' := by
  have h0 := h.c0
  have h1 := h.c1
  obtain ⟨ix, hm, hix⟩ := h.mp
  obtain ⟨gm, pm⟩ := h.gm
  have pg := h.pg
  have hpl := h.lt
  have hgl := h.glt
  have HIX : Aside _ := hix.pop (n := n) (by omega)
  have hnum := h.num (i := n) (by omega)
  have hat := hix.at' n (by omega)
  have HM : Aside (MapIs w m (n + 1) ix) := hn ▸ hm
  have hrow := h.row
  rw [hn] at hrow h0
  have HRW : Aside _ := own_take hrow hn
  have hfz := h.fz o
  have H64 : Aside (∀ y ∈ xs.take n, W64 y.2) := fun y hy => h.w64 y (List.mem_of_mem_take hy)
  have HFZ : Aside (∀ j, w.frozen? ⟨p, j, none⟩ = false) := h.fz
  have hfew := h.few
  have HL : Hid ((xs.take n).length = n) := by show _ = _; rw [List.length_take]; omega
  obtain ⟨z0, z1⟩ := h.cells (i := n) (by omega)
  clear h hix hm hrow
  generalize tget xs n = x at *
  generalize xs.take n = ys at *
  obtain ⟨d, a⟩ := x
  dsimp only at *
  have hcap := own_cap HRW.out
  go_enter Try.func88, Try.ntmps88
  go_wp2
  have u1 : Below w.heap.size w (w.alloc (.cells #[.int .i64 d, .int .i64 a] 80)) := upd_box _
  have b0 : (w.alloc (.cells #[.int .i64 d, .int .i64 a] 80)).cell? ⟨w.heap.size, 0, none⟩ = some (.int .i64 d) := (arr_new w _ _).cells 0 _ rfl
  have b1 : (w.alloc (.cells #[.int .i64 d, .int .i64 a] 80)).cell? ⟨w.heap.size, 1, none⟩ = some (.int .i64 a) := (arr_new w _ _).cells 1 _ rfl
  have hB1 : w.heap.size < (w.alloc (.cells #[.int .i64 d, .int .i64 a] 80)).heap.size := by simp
  have hml := HM.out.lt
  have hBm : Hid (w.heap.size ≠ m) := Nat.ne_of_gt hml
  have hBp : Hid (w.heap.size ≠ p) := Nat.ne_of_gt hpl
  generalize w.alloc (.cells #[.int .i64 d, .int .i64 a] 80) = w1 at *
  have k0 := (u1.cell (p := ⟨p, o, none⟩) hpl).trans h0
  have k1 := (u1.cell (p := ⟨p, o + 1, none⟩) hpl).trans h1
  have hm1 : MapIs w1.drew m (n + 1) ix := HM.out.upd (S := fun _ => False) (Upd.below u1).drew (fun x => x)
  obtain ⟨w2, rD, m2, t2⟩ := hm1.del hnum hat 0
  rw [Nat.add_sub_cancel] at m2
  have u2 : Upd (fun k => k = m) w1 w2 := (Upd.refl _ _).drew.trans (turned_upd t2) (fun _ _ x => x)
  have hp1 : p < w1.heap.size := Nat.lt_of_lt_of_le hpl u1.size
  have c0 := (u2.cell (p := ⟨p, o, none⟩) hp1 pm).trans k0
  have y0 := (u2.cell (p := ⟨w.heap.size, 0, none⟩) hB1 hBm.out).trans b0
  have y1 := (u2.cell (p := ⟨w.heap.size, 1, none⟩) hB1 hBm.out).trans b1
  have x0 : (w2.setCell ⟨p, o, none⟩ (.slice (some ⟨g, 0, none⟩) n c)).cell? ⟨w.heap.size, 0, none⟩ = some (.int .i64 d) := ((upd_set (w := w2) (p := p) o (.slice (some ⟨g, 0, none⟩) n c)).cell (p := ⟨w.heap.size, 0, none⟩) (Nat.lt_of_lt_of_le hB1 u2.size) hBp.out).trans y0
  have x1 : (w2.setCell ⟨p, o, none⟩ (.slice (some ⟨g, 0, none⟩) n c)).cell? ⟨w.heap.size, 1, none⟩ = some (.int .i64 a) := ((upd_set (w := w2) (p := p) o (.slice (some ⟨g, 0, none⟩) n c)).cell (p := ⟨w.heap.size, 1, none⟩) (Nat.lt_of_lt_of_le hB1 u2.size) hBp.out).trans y1
  have u02 : Upd (fun k => k = m) w w2 := (Upd.below u1).trans u2 (fun _ _ x => x)
  have f0 : w2.frozen? ⟨p, o, none⟩ = false := (u02.frozen (p := ⟨p, o, none⟩) hpl pm).trans hfz
  have HF : Aside (TimAt (w2.setCell ⟨p, o, none⟩ (.slice (some ⟨g, 0, none⟩) n c)) p o g m c ys ∧ UpdC p o (fun k => k = p ∨ k = m) w (w2.setCell ⟨p, o, none⟩ (.slice (some ⟨g, 0, none⟩) n c))) := by
    have hl := HL.out
    have hu : Upd (fun k => k = p) w2 (w2.setCell ⟨p, o, none⟩ (.slice (some ⟨g, 0, none⟩) n c)) := upd_set _ _
    have hr := ownsRow_upd (S := fun k => k = m) HRW.out u02 (fun k hk => by cases hk; exact gm)
    refine ⟨⟨⟨Nat.lt_of_lt_of_le hpl (Nat.le_trans u02.size hu.size), by rw [hl]; exact cell_same c0, (cell_other (by omega)).trans ((u02.cell (p := ⟨p, o + 1, none⟩) hpl pm).trans h1), fun j => by rw [World.frozen?_setCell]; exact (u02.frozen (p := ⟨p, j, none⟩) hpl pm).trans (HFZ.out j), ?_, pg, H64.out, by rw [hl]; omega⟩, _, ?_, HIX.out⟩, ((u02.part pm).mono (fun _ _ x => .inr x)).setCell (.inl rfl) (.inl rfl) _⟩
    · rw [hl]
      exact ownsRow_upd (S := fun k => k = p) hr hu (fun k hk => by cases hk; exact fun e => pg e.symm)
    · rw [hl]
      exact m2.upd hu (fun e => pm e.symm)
  clear HM u1 hm1 m2 t2 u2 h0 h1 hB1 hBm hBp u02 hfz z0 z1 HRW hml hp1
  generalize w.heap.size = B at b0 b1 y0 y1 x0 x1 ⊢
  go_upto_region 3 with (fail)
  go_region
  all_goals
    clear b0 b1 k0 k1 rD
    go_wp2
    go_ret
    exact ⟨⟨_, rfl⟩, HF.out⟩
end Go.Proofs.Ytcnheikckfhniaa
