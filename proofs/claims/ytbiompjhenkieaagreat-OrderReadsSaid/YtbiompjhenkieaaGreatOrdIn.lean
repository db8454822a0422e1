/-
  Package order: a line, a supply out of bytes. Conditions: those of each theorem.
-/
import Derived.Test.YtbiompjhenkieaaGreatTabReads
import Derived.Test.YtbiompjhenkieaaGreatOrdOut
import Derived.Test.YtbiompjhenkieaaGreatOrderDoc
namespace Go.Proofs.YtbiompjhenkieaaGreat
open Go.RowKit
set_option maxRecDepth 100000

theorem in_u32t {w : World} {p : Nat} {S : Nat → Prop} {rest : List UInt8} {bad : Bool} (h : InAt w p S rest bad) :
    Calls Tryz.prog 69 #[.pointer (some ⟨p, 0, none⟩)] w fun e w' => ∃ (v : Nat) (rest' : List UInt8) (bad' : Bool), e = .returned (.int .i64 v) ∧ InAt w' p S rest' bad' ∧ Upd (fun k => k = p) w w' ∧ Told 4 rest v rest' :=
  (in_u32 h).mono fun _ _ ⟨he, d⟩ => ⟨_, _, _, he, d.1, d.2, told_took 4 rest bad⟩
/-- What a reading of a sum tells. -/
def ToldS (rest : List UInt8) (z : Int) (rest' : List UInt8) : Prop := I64 z ∧ ∀ (x : Int) r, 0 ≤ x ∧ x ≤ 1073741824 → rest = le x 8 ++ r → z = x ∧ rest' = r
theorem wrap64_i64 (v : Int) : I64 (wrap64 v) := by unfold I64 wrap64; omega
theorem in_i64t {w : World} {p : Nat} {S : Nat → Prop} {rest : List UInt8} {bad : Bool} (h : InAt w p S rest bad) :
    Calls Tryz.prog 70 #[.pointer (some ⟨p, 0, none⟩)] w fun e w' => ∃ (z : Int) (rest' : List UInt8) (bad' : Bool), e = .returned (.int .i64 z) ∧ InAt w' p S rest' bad' ∧ Upd (fun k => k = p) w w' ∧ ToldS rest z rest' :=
  (in_i64 h).mono fun _ _ ⟨he, d⟩ => ⟨_, _, _, he, d.1, d.2, wrap64_i64 _, fun x r hx hr => by
    obtain ⟨h1, h2⟩ := (told_took 8 rest bad).told x r (fits8 hx) hr
    have h1' : ((numLe (took rest bad 8).1 : Nat) : Int) = x := h1
    refine ⟨?_, h2⟩
    rw [h1']
    unfold wrap64
    omega⟩
theorem told_i64 {n : Nat} {rest rest' : List UInt8} {v : Nat} (h : Told n rest v rest') (hn : n ≤ 4) : I64 (v : Int) := by
  have h1 := h.small
  have h2 : 256 ^ n ≤ 256 ^ 4 := Nat.pow_le_pow_right (by decide) hn
  have h3 : (256 : Nat) ^ 4 = 4294967296 := by decide
  unfold I64
  omega
theorem upd_gset {g : Nat} {w w' : World} (h : Upd (fun k => k = g) w w') {o : Nat} {u : Value} : Upd (fun k => k = g) w (w'.setCell ⟨g, o, none⟩ u) := h.setCell (.inl rfl) u
theorem row_upd {w w' : World} {g p : Nat} {o : Obj} (h : w.heap[g]? = some o) (hu : Upd (fun k => k = p) w w') (hn : g ≠ p) : w'.heap[g]? = some o := (hu.block g (Array.getElem?_eq_some_iff.1 h).1 hn).trans h

theorem info_lnr : (Tryz.prog.info? 54).map (·.size) = some 4 := by kernel_rfl
def ord_readLineR (w : World) (p : Nat) (S : Nat → Prop) (rest : List UInt8) (e : Ending) (w' : World) : Prop :=
  ∃ (l : Ln) (rest' : List UInt8) (bad' : Bool), e = .returned (.agg l.arr) ∧ LnFit l ∧ InAt w' p S rest' bad' ∧ Upd (fun k => k = p) w w' ∧ ∀ (l0 : Ln) r, LnSmall l0 → rest = lnBytes l0 ++ r → l = l0 ∧ rest' = r
set_option maxHeartbeats 4000000 in
theorem ord_readLine {w : World} {p : Nat} {S : Nat → Prop} {rest : List UInt8} {bad : Bool} (h : InAt w p S rest bad) :
    Calls Tryz.prog 72 #[.pointer (some ⟨p, 0, none⟩)] w (ord_readLineR w p S rest) := by
  have hown := h.lt p h.own
  have hsep := Lib.hid h.lt
  have Z0 : Aside ((w.alloc (.cells #[.int .i64 0, .int .i64 0, .int .i64 0, .int .i64 0] 54)).heap[w.heap.size]? = some (.cells #[.int .i64 0, .int .i64 0, .int .i64 0, .int .i64 0] 54 (0, 0))) := heap_alloc_new _ _
  have I0 : Aside (InAt (w.alloc (.cells #[.int .i64 0, .int .i64 0, .int .i64 0, .int .i64 0] 54)) p S rest bad) := h.below (upd_box _)
  have U0 : Aside (Upd (fun k => k = p) w (w.alloc (.cells #[.int .i64 0, .int .i64 0, .int .i64 0, .int .i64 0] 54))) := (Upd.refl _ _).alloc _
  have hgp : Hid (w.heap.size ≠ p) := by show _ ≠ _; omega
  clear h
  go_enter Tryz.func72, Tryz.ntmps72
  go_upto_region 1 with (fail)
  show Code.wp _ _ _ _ (w.alloc (.cells #[.int .i64 0, .int .i64 0, .int .i64 0, .int .i64 0] 54))
  generalize w.alloc (.cells #[.int .i64 0, .int .i64 0, .int .i64 0, .int .i64 0] 54) = v0 at *
  have HC : Aside _ := in_u16t I0.out
  go_wp2_with fail
  refine Calls.mono HC.out ?_
  rintro e v1 ⟨a, r1, bd1, rfl, i2, u2, t2⟩
  have I1 : Aside _ := i2
  have U1 : Aside _ := U0.out.trans u2 (fun _ _ x => x)
  have Z1 : Aside _ := row_upd Z0.out u2 hgp.out
  have T1 := Lib.hid t2
  clear HC i2 u2 t2 I0 U0 Z0
  have HC : Aside _ := in_u8t I1.out
  go_wp2_with fail
  refine Calls.mono HC.out ?_
  rintro e v2 ⟨b, r2, bd2, rfl, i2, u2, t2⟩
  have I2 : Aside _ := i2
  have U2 : Aside _ := U1.out.trans u2 (fun _ _ x => x)
  have Z2 : Aside _ := row_upd Z1.out u2 hgp.out
  have T2 := Lib.hid t2
  clear HC i2 u2 t2 I1 U1 Z1
  have HC : Aside _ := in_i64t I2.out
  go_wp2_with fail
  refine Calls.mono HC.out ?_
  rintro e v3 ⟨c, r3, bd3, rfl, i2, u2, t2⟩
  have I3 : Aside _ := i2
  have U3 : Aside _ := U2.out.trans u2 (fun _ _ x => x)
  have Z3 : Aside _ := row_upd Z2.out u2 hgp.out
  have T3 := Lib.hid t2
  clear HC i2 u2 t2 I2 U2 Z2
  have HC : Aside _ := in_u8t I3.out
  go_wp2_with fail
  refine Calls.mono HC.out ?_
  rintro e v4 ⟨d, r4, bd4, rfl, i2, u2, t2⟩
  have I4 : Aside _ := i2
  have U4 : Aside _ := U3.out.trans u2 (fun _ _ x => x)
  have Z4 : Aside _ := row_upd Z3.out u2 hgp.out
  have T4 := Lib.hid t2
  clear HC i2 u2 t2 I3 U3 Z3
  obtain ⟨g2, hg2⟩ : ∃ g2, g2 = w.heap.size := ⟨_, rfl⟩
  have Z9 := Z4.out
  rw [← hg2] at Z9 hgp ⊢
  have HG2 := Lib.hid hg2
  clear hg2 Z4
  have z0 : v4.cell? ⟨g2, 0, none⟩ = some (.int .i64 0) := by rw [cell_of_row v4 g2 0 _ _ _ Z9]; rfl
  have z1 : v4.cell? ⟨g2, 1, none⟩ = some (.int .i64 0) := by rw [cell_of_row v4 g2 1 _ _ _ Z9]; rfl
  have z2 : v4.cell? ⟨g2, 2, none⟩ = some (.int .i64 0) := by rw [cell_of_row v4 g2 2 _ _ _ Z9]; rfl
  have z3 : v4.cell? ⟨g2, 3, none⟩ = some (.int .i64 0) := by rw [cell_of_row v4 g2 3 _ _ _ Z9]; rfl
  have zf : ∀ j, v4.frozen? ⟨g2, j, none⟩ = false := fun j => by simp [World.frozen?, Z9]
  have hat : ((((v4.setCell ⟨g2, 0, none⟩ (.int .i64 (a : Int))).setCell ⟨g2, 1, none⟩ (.int .i64 (b : Int))).setCell ⟨g2, 2, none⟩ (.int .i64 c)).setCell ⟨g2, 3, none⟩ (.int .i64 (d : Int))).heap[g2]? = some (.cells #[.int .i64 (a : Int), .int .i64 (b : Int), .int .i64 c, .int .i64 (d : Int)] 54 (0, 0)) := by
    have g0 := setCell_heap_at (o := 0) (u := .int .i64 (a : Int)) Z9
    have g1 := setCell_heap_at (o := 1) (u := .int .i64 (b : Int)) g0
    have g2 := setCell_heap_at (o := 2) (u := .int .i64 c) g1
    have g3 := setCell_heap_at (o := 3) (u := .int .i64 (d : Int)) g2
    simpa using g3
  have HAT := Lib.hid hat
  have hsu : Upd (fun k => k = g2) v4 ((((v4.setCell ⟨g2, 0, none⟩ (.int .i64 (a : Int))).setCell ⟨g2, 1, none⟩ (.int .i64 (b : Int))).setCell ⟨g2, 2, none⟩ (.int .i64 c)).setCell ⟨g2, 3, none⟩ (.int .i64 (d : Int))) := upd_gset (upd_gset (upd_gset (upd_gset (Upd.refl _ _))))
  have HSU : Aside _ := hsu
  clear hat hsu Z9
  go_wp2
  refine bodyPost_ret (results_cell_row rfl _ _ g2 54 #[.int .i64 (a : Int), .int .i64 (b : Int), .int .i64 c, .int .i64 (d : Int)] (0, 0) _ rfl HAT.out Tryz.underlying54 rfl info_lnr) rfl ?_
  refine ⟨⟨a, b, c, d⟩, r4, bd4, rfl, ⟨told_i64 T1.out (by decide), told_i64 T2.out (by decide), T3.out.1, told_i64 T4.out (by decide)⟩, I4.out.upd HSU.out (fun k hk e => by have := hsep.out k hk; have := HG2.out; omega), U4.out.trans (HSU.out.mono (S' := fun k => w.heap.size ≤ k) (fun k _ e => by have := HG2.out; omega)) (fun k hk e => by omega), fun l0 r hs hr => ?_⟩
  obtain ⟨s1, s2, s3, s4⟩ := hs
  unfold lnBytes at hr
  simp only [List.append_assoc] at hr
  obtain ⟨e1, hr1⟩ := T1.out.told l0.sku _ (fits2 s1) hr
  obtain ⟨e2, hr2⟩ := T2.out.told l0.cat _ (fits_one s2.1 s2.2) (by rw [le_one s2.1 s2.2]; exact hr1)
  obtain ⟨e3, hr3⟩ := T3.out.2 l0.price _ s3 hr2
  obtain ⟨e4, hr4⟩ := T4.out.told l0.count _ (fits_one s4.1 s4.2) (by rw [le_one s4.1 s4.2]; exact hr3)
  obtain ⟨q1, q2, q3, q4⟩ := l0
  simp only at e1 e2 e3 e4
  subst e1 e2 e3 e4
  exact ⟨rfl, hr4⟩

theorem info_supr : (Tryz.prog.info? 42).map (·.size) = some 3 := by kernel_rfl
def ord_readSupplyR (w : World) (p : Nat) (S : Nat → Prop) (rest : List UInt8) (e : Ending) (w' : World) : Prop :=
  ∃ (l : Sup) (rest' : List UInt8) (bad' : Bool), e = .returned (.agg l.arr) ∧ SupFit l ∧ InAt w' p S rest' bad' ∧ Upd (fun k => k = p) w w' ∧ ∀ (l0 : Sup) r, SupSmall l0 → rest = supBytes l0 ++ r → l = l0 ∧ rest' = r
set_option maxHeartbeats 4000000 in
theorem ord_readSupply {w : World} {p : Nat} {S : Nat → Prop} {rest : List UInt8} {bad : Bool} (h : InAt w p S rest bad) :
    Calls Tryz.prog 49 #[.pointer (some ⟨p, 0, none⟩)] w (ord_readSupplyR w p S rest) := by
  have hown := h.lt p h.own
  have hsep := Lib.hid h.lt
  have Z0 : Aside ((w.alloc (.cells #[.int .i64 0, .int .i64 0, .int .i64 0] 42)).heap[w.heap.size]? = some (.cells #[.int .i64 0, .int .i64 0, .int .i64 0] 42 (0, 0))) := heap_alloc_new _ _
  have I0 : Aside (InAt (w.alloc (.cells #[.int .i64 0, .int .i64 0, .int .i64 0] 42)) p S rest bad) := h.below (upd_box _)
  have U0 : Aside (Upd (fun k => k = p) w (w.alloc (.cells #[.int .i64 0, .int .i64 0, .int .i64 0] 42))) := (Upd.refl _ _).alloc _
  have hgp : Hid (w.heap.size ≠ p) := by show _ ≠ _; omega
  clear h
  go_enter Tryz.func49, Tryz.ntmps49
  go_upto_region 1 with (fail)
  show Code.wp _ _ _ _ (w.alloc (.cells #[.int .i64 0, .int .i64 0, .int .i64 0] 42))
  generalize w.alloc (.cells #[.int .i64 0, .int .i64 0, .int .i64 0] 42) = v0 at *
  have HC : Aside _ := in_u16t I0.out
  go_wp2_with fail
  refine Calls.mono HC.out ?_
  rintro e v1 ⟨a, r1, bd1, rfl, i2, u2, t2⟩
  have I1 : Aside _ := i2
  have U1 : Aside _ := U0.out.trans u2 (fun _ _ x => x)
  have Z1 : Aside _ := row_upd Z0.out u2 hgp.out
  have T1 := Lib.hid t2
  clear HC i2 u2 t2 I0 U0 Z0
  have HC : Aside _ := in_i64t I1.out
  go_wp2_with fail
  refine Calls.mono HC.out ?_
  rintro e v2 ⟨c, r2, bd2, rfl, i2, u2, t2⟩
  have I2 : Aside _ := i2
  have U2 : Aside _ := U1.out.trans u2 (fun _ _ x => x)
  have Z2 : Aside _ := row_upd Z1.out u2 hgp.out
  have T2 := Lib.hid t2
  clear HC i2 u2 t2 I1 U1 Z1
  have HC : Aside _ := in_u8t I2.out
  go_wp2_with fail
  refine Calls.mono HC.out ?_
  rintro e v3 ⟨d, r3, bd3, rfl, i2, u2, t2⟩
  have I3 : Aside _ := i2
  have U3 : Aside _ := U2.out.trans u2 (fun _ _ x => x)
  have Z3 : Aside _ := row_upd Z2.out u2 hgp.out
  have T3 := Lib.hid t2
  clear HC i2 u2 t2 I2 U2 Z2
  obtain ⟨g2, hg2⟩ : ∃ g2, g2 = w.heap.size := ⟨_, rfl⟩
  have Z9 := Z3.out
  rw [← hg2] at Z9 hgp ⊢
  have HG2 := Lib.hid hg2
  clear hg2 Z3
  have z0 : v3.cell? ⟨g2, 0, none⟩ = some (.int .i64 0) := by rw [cell_of_row v3 g2 0 _ _ _ Z9]; rfl
  have z1 : v3.cell? ⟨g2, 1, none⟩ = some (.int .i64 0) := by rw [cell_of_row v3 g2 1 _ _ _ Z9]; rfl
  have z2 : v3.cell? ⟨g2, 2, none⟩ = some (.int .i64 0) := by rw [cell_of_row v3 g2 2 _ _ _ Z9]; rfl
  have zf : ∀ j, v3.frozen? ⟨g2, j, none⟩ = false := fun j => by simp [World.frozen?, Z9]
  have hat : (((v3.setCell ⟨g2, 0, none⟩ (.int .i64 (a : Int))).setCell ⟨g2, 1, none⟩ (.int .i64 c)).setCell ⟨g2, 2, none⟩ (.int .i64 (d : Int))).heap[g2]? = some (.cells #[.int .i64 (a : Int), .int .i64 c, .int .i64 (d : Int)] 42 (0, 0)) := by
    have g0 := setCell_heap_at (o := 0) (u := .int .i64 (a : Int)) Z9
    have g1 := setCell_heap_at (o := 1) (u := .int .i64 c) g0
    have g2 := setCell_heap_at (o := 2) (u := .int .i64 (d : Int)) g1
    simpa using g2
  have HAT := Lib.hid hat
  have hsu : Upd (fun k => k = g2) v3 (((v3.setCell ⟨g2, 0, none⟩ (.int .i64 (a : Int))).setCell ⟨g2, 1, none⟩ (.int .i64 c)).setCell ⟨g2, 2, none⟩ (.int .i64 (d : Int))) := upd_gset (upd_gset (upd_gset (Upd.refl _ _)))
  have HSU : Aside _ := hsu
  clear hat hsu Z9
  go_wp2
  refine bodyPost_ret (results_cell_row rfl _ _ g2 42 #[.int .i64 (a : Int), .int .i64 c, .int .i64 (d : Int)] (0, 0) _ rfl HAT.out Tryz.underlying42 rfl info_supr) rfl ?_
  refine ⟨⟨a, c, d⟩, r3, bd3, rfl, ⟨told_i64 T1.out (by decide), T2.out.1, told_i64 T3.out (by decide)⟩, I3.out.upd HSU.out (fun k hk e => by have := hsep.out k hk; have := HG2.out; omega), U3.out.trans (HSU.out.mono (S' := fun k => w.heap.size ≤ k) (fun k _ e => by have := HG2.out; omega)) (fun k hk e => by omega), fun l0 r hs hr => ?_⟩
  obtain ⟨s1, s3, s4⟩ := hs
  unfold supBytes at hr
  simp only [List.append_assoc] at hr
  obtain ⟨e1, hr1⟩ := T1.out.told l0.sku _ (fits2 s1) hr
  obtain ⟨e3, hr2⟩ := T2.out.2 l0.price _ s3 hr1
  obtain ⟨e4, hr3⟩ := T3.out.told l0.count _ (fits_one s4.1 s4.2) (by rw [le_one s4.1 s4.2]; exact hr2)
  obtain ⟨q1, q3, q4⟩ := l0
  simp only at e1 e3 e4
  subst e1 e3 e4
  exact ⟨rfl, hr3⟩
end Go.Proofs.YtbiompjhenkieaaGreat
