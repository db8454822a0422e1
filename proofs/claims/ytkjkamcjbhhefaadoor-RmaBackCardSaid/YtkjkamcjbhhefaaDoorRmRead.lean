/-
  Package rma: read, Take. Conditions: those of each theorem.
-/
import Derived.Test.YtkjkamcjbhhefaaDoorRmList
import Derived.Test.YtkjkamcjbhhefaaDoorRmRight
import Derived.Test.YtkjkamcjbhhefaaDoorRmLaw
import Derived.Test.YtkjkamcjbhhefaaDoorRmEq
namespace Go.Proofs.YtkjkamcjbhhefaaDoor
open Go.RowKit
set_option maxRecDepth 100000

theorem took_small (rest : List UInt8) (bad : Bool) (n : Nat) : 0 ≤ ((numLe (took rest bad n).1 : Nat) : Int) ∧ ((numLe (took rest bad n).1 : Nat) : Int) < 256 ^ n := by
  have h1 := took_len rest bad n
  have h2 := numLe_lt (took rest bad n).1
  have h3 : 256 ^ (took rest bad n).1.length ≤ 256 ^ n := Nat.pow_le_pow_right (by decide) (by simpa using h1)
  have e : (256 : Int) ^ n = ((256 ^ n : Nat) : Int) := by push_cast; rfl
  rw [e]
  omega
section
variable {w : World} {p : Nat} {S : Nat → Prop} {rest : List UInt8} {bad : Bool}
theorem in_u16p (h : InAt w p S rest bad) :
    Calls Tryd.prog 53 #[.pointer (some ⟨p, 0, none⟩)] w fun e w' => ∃ (v : Int) (r : List UInt8) (b : Bool), e = .returned (.int .i64 v) ∧ InAt w' p S r b ∧ Upd (fun k => k = p) w w' ∧ (0 ≤ v ∧ v < 65536) ∧ Par (fun v : Int => le v 2) (fun v => fits v 2 = true) rest bad v r b :=
  (in_u16 h).mono fun _ _ ⟨he, d⟩ => ⟨_, _, _, he, d.1, d.2, took_small rest bad 2, par_num rest bad 2⟩
theorem in_u32p (h : InAt w p S rest bad) :
    Calls Tryd.prog 55 #[.pointer (some ⟨p, 0, none⟩)] w fun e w' => ∃ (v : Int) (r : List UInt8) (b : Bool), e = .returned (.int .i64 v) ∧ InAt w' p S r b ∧ Upd (fun k => k = p) w w' ∧ (0 ≤ v ∧ v < 4294967296) ∧ Par (fun v : Int => le v 4) (fun v => fits v 4 = true) rest bad v r b :=
  (in_u32 h).mono fun _ _ ⟨he, d⟩ => ⟨_, _, _, he, d.1, d.2, took_small rest bad 4, par_num rest bad 4⟩
theorem in_flagp (h : InAt w p S rest bad) :
    Calls Tryd.prog 54 #[.pointer (some ⟨p, 0, none⟩)] w fun e w' => ∃ (v : Bool) (r : List UInt8) (b : Bool), e = .returned (.bool v) ∧ InAt w' p S r b ∧ Upd (fun k => k = p) w w' ∧ True ∧ Par (fun v : Bool => le (flagI v) 1) (fun _ => True) rest bad v r b :=
  (in_flag h).mono fun _ _ ⟨he, d⟩ => ⟨_, _, _, he, d.1, d.2, trivial, par_flag rest bad⟩
theorem in_i64p (h : InAt w p S rest bad) :
    Calls Tryd.prog 58 #[.pointer (some ⟨p, 0, none⟩)] w fun e w' => ∃ (v : Int) (r : List UInt8) (b : Bool), e = .returned (.int .i64 v) ∧ InAt w' p S r b ∧ Upd (fun k => k = p) w w' ∧ I64 v ∧ Par (fun v : Int => le (IntKind.u64.wrap v) 8) I64 rest bad v r b :=
  (in_i64 h).mono fun _ _ ⟨he, d⟩ => ⟨_, _, _, he, d.1, d.2, by unfold I64 wrap64; omega, par_i64 rest bad⟩
theorem in_mostp (h : InAt w p S rest bad) :
    Calls Tryd.prog 56 #[.pointer (some ⟨p, 0, none⟩), .int .i64 200] w fun e w' => ∃ (v : Nat) (r : List UInt8) (b : Bool), e = .returned (.int .i64 (v : Int)) ∧ InAt w' p S r b ∧ Upd (fun k => k = p) w w' ∧ v ≤ 200 ∧ Par (fun v : Int => le v 2) (fun v => fits v 2 = true ∧ v ≤ 200) rest bad (v : Int) r b :=
  (in_most h 200).mono fun _ _ ⟨he, d⟩ => ⟨_, _, _, he, d.1, d.2, by unfold mostOf; split <;> simp <;> omega, par_most rest bad 200⟩
end
/-- What was read, all of it. -/
structure ReadP (rest : List UInt8) (bad : Bool) (r : Ret) (us gs : List Int) (rest' : List UInt8) (bad' : Bool) : Prop where
  fwd : bad' = false → bad = false ∧ FitR r us gs ∧ rest = rmaBytes r us gs ++ rest'
  bwd : ∀ r0 us0 gs0 t, bad = false → FitR r0 us0 gs0 → Fit64 r0 us0 gs0 → us0.length = gs0.length → us0.length ≤ 200 → rest = rmaBytes r0 us0 gs0 ++ t → sameB r r0 us us0 gs gs0 = true ∧ bad' = false ∧ rest' = t
theorem read_par {r0 r1 r2 r3 r4 r5 r6 r7 r8 r9 r10 r11 r12 r13 r14 r15 : List UInt8} {b0 b1 b2 b3 b4 b5 b6 b7 b8 b9 b10 b11 b12 b13 b14 b15 : Bool} {v0 v1 v2 v3 v4 v6 v7 v10 v11 v12 v13 : Int} {v5 : Bool} {N : Nat} {us gs : List Int} (uA gA : Option Addr) (uC gC : Nat)
    (p0 : Par (fun v : Int => le v 1) (fun v => fits v 1 = true) r0 b0 v0 r1 b1)
    (p1 : Par (fun v : Int => le v 1) (fun v => fits v 1 = true) r1 b1 v1 r2 b2)
    (p2 : Par (fun v : Int => le v 1) (fun v => fits v 1 = true) r2 b2 v2 r3 b3)
    (p3 : Par (fun v : Int => le v 2) (fun v => fits v 2 = true) r3 b3 v3 r4 b4)
    (p4 : Par (fun v : Int => le v 2) (fun v => fits v 2 = true) r4 b4 v4 r5 b5)
    (p5 : Par (fun v : Bool => le (flagI v) 1) (fun _ => True) r5 b5 v5 r6 b6)
    (p6 : Par (fun v : Int => le v 1) (fun v => fits v 1 = true) r6 b6 v6 r7 b7)
    (p7 : Par (fun v : Int => le v 4) (fun v => fits v 4 = true) r7 b7 v7 r8 b8)
    (p8 : Par (fun v : Int => le v 2) (fun v => fits v 2 = true ∧ v ≤ 200) r8 b8 (N : Int) r9 b9)
    (p9 : Par (listB 0) (okList 0 N) r9 b9 us r10 b10) (p10 : Par (listB 1) (okList 1 N) r10 b10 gs r11 b11)
    (p11 : Par (fun v : Int => le (IntKind.u64.wrap v) 8) I64 r11 b11 v10 r12 b12)
    (p12 : Par (fun v : Int => le (IntKind.u64.wrap v) 8) I64 r12 b12 v11 r13 b13)
    (p13 : Par (fun v : Int => le (IntKind.u64.wrap v) 8) I64 r13 b13 v12 r14 b14)
    (p14 : Par (fun v : Int => le (IntKind.u64.wrap v) 8) I64 r14 b14 v13 r15 b15)
    : ReadP r0 b0 ⟨v0, v1, v2, v3, v4 - 1, v5, v6, v7, uA, N, uC, gA, N, gC, v10, v11, v12, v13⟩ us gs r15 b15 := by
  refine ⟨fun h => ?_, fun x us0 gs0 t hb hf h64 hl h2 he => ?_⟩
  · obtain ⟨h14, k14, e14⟩ := p14.fwd h
    obtain ⟨h13, k13, e13⟩ := p13.fwd h14
    obtain ⟨h12, k12, e12⟩ := p12.fwd h13
    obtain ⟨h11, k11, e11⟩ := p11.fwd h12
    obtain ⟨h10, k10, e10⟩ := p10.fwd h11
    obtain ⟨h9, k9, e9⟩ := p9.fwd h10
    obtain ⟨h8, k8, e8⟩ := p8.fwd h9
    obtain ⟨h7, k7, e7⟩ := p7.fwd h8
    obtain ⟨h6, k6, e6⟩ := p6.fwd h7
    obtain ⟨h5, k5, e5⟩ := p5.fwd h6
    obtain ⟨h4, k4, ee4⟩ := p4.fwd h5
    obtain ⟨h3, k3, e3⟩ := p3.fwd h4
    obtain ⟨h2, k2, e2⟩ := p2.fwd h3
    obtain ⟨h1, k1, e1⟩ := p1.fwd h2
    obtain ⟨h0, k0, e0⟩ := p0.fwd h1
    have e4 : v4 - 1 + 1 = v4 := by omega
    have hu : us.length = N := k9.1
    refine ⟨h0, ⟨k0, k1, k2, k3, by show fits (v4 - 1 + 1) 2 = true; rw [e4]; exact k4, k6, k7, by rw [hu]; exact k8.1, k9.2, k10.2⟩, ?_⟩
    unfold rmaBytes
    simp only
    rw [e4, hu]
    rw [e0, e1, e2, e3, ee4, e5, e6, e7, e8, e9, e10, e11, e12, e13, e14]
    simp only [List.append_assoc]
  · unfold rmaBytes at he
    simp only [List.append_assoc] at he
    obtain ⟨a0, e0, h0⟩ := p0.bwd x.num _ hb hf.num he
    obtain ⟨a1, e1, h1⟩ := p1.bwd x.ord _ h0 hf.ord e0
    obtain ⟨a2, e2, h2⟩ := p2.bwd x.rea _ h1 hf.rea e1
    obtain ⟨a3, e3, h3⟩ := p3.bwd x.want _ h2 hf.want e2
    obtain ⟨a4, e4, h4⟩ := p4.bwd (x.res + 1) _ h3 hf.res e3
    obtain ⟨a5, e5, h5⟩ := p5.bwd x.cred _ h4 trivial e4
    obtain ⟨a6, e6, h6⟩ := p6.bwd x.st _ h5 hf.st e5
    obtain ⟨a7, e7, h7⟩ := p7.bwd x.day _ h6 hf.day e6
    obtain ⟨a8, e8, h8⟩ := p8.bwd (us0.length : Int) _ h7 ⟨hf.len, by omega⟩ e7
    obtain ⟨a9, e9, h9⟩ := p9.bwd us0 _ h8 ⟨by omega, hf.us⟩ e8
    obtain ⟨a10, e10, h10⟩ := p10.bwd gs0 _ h9 ⟨by omega, hf.gs⟩ e9
    obtain ⟨a11, e11, h11⟩ := p11.bwd x.wor _ h10 h64.wor e10
    obtain ⟨a12, e12, h12⟩ := p12.bwd x.pai _ h11 h64.pai e11
    obtain ⟨a13, e13, h13⟩ := p13.bwd x.cre _ h12 h64.cre e12
    obtain ⟨a14, e14, h14⟩ := p14.bwd x.giv t h13 h64.giv (by rw [e13])
    refine ⟨?_, h14, e14⟩
    obtain ⟨x0, x1, x2, x3, x4, x5, x6, x7, xa, xn, xc, ya, yn, yc, x10, x11, x12, x13⟩ := x
    dsimp only at a0 a1 a2 a3 a4 a5 a6 a7 a11 a12 a13 a14
    unfold sameB
    simp [a0, a1, a2, a3, a4, a5, a6, a7, a9, a10, a11, a12, a13, a14, eqInts]

/-- Both lists stored, with their lengths. -/
theorem set89g {w : World} {g : Nat} {t : TypeId} {r : Ret} (h : RetBox w g t r) (uA : Option Addr) (uN uC : Nat) (gA : Option Addr) (gN gC : Nat) : RetBox ((w.setCell ⟨g, 8, none⟩ (.slice uA uN uC)).setCell ⟨g, 9, none⟩ (.slice gA gN gC)) g t { r with uA := uA, uN := uN, uC := uC, gA := gA, gN := gN, gC := gC } := by
  have g0 := setCell_heap_at (o := 8) (u := .slice uA uN uC) h.at'
  have g1 := setCell_heap_at (o := 9) (u := .slice gA gN gC) g0
  exact ⟨by simpa using g1⟩
theorem set4g {w : World} {g : Nat} {t : TypeId} {r : Ret} (h : RetBox w g t r) (a b c d : Int) : RetBox ((((w.setCell ⟨g, 10, none⟩ (.int .i64 a)).setCell ⟨g, 11, none⟩ (.int .i64 b)).setCell ⟨g, 12, none⟩ (.int .i64 c)).setCell ⟨g, 13, none⟩ (.int .i64 d)) g t { r with wor := a, pai := b, cre := c, giv := d } := by
  have g0 := setCell_heap_at (o := 10) (u := .int .i64 a) h.at'
  have g1 := setCell_heap_at (o := 11) (u := .int .i64 b) g0
  have g2 := setCell_heap_at (o := 12) (u := .int .i64 c) g1
  have g3 := setCell_heap_at (o := 13) (u := .int .i64 d) g2
  exact ⟨by simpa using g3⟩
theorem upd_g {g : Nat} {w w' : World} (h : Upd (fun k => k = g) w w') {o : Nat} {u : Value} : Upd (fun k => k = g) w (w'.setCell ⟨g, o, none⟩ u) := h.setCell (.inl rfl) u

def ReadR (w : World) (p : Nat) (S : Nat → Prop) (rest : List UInt8) (bad : Bool) (e : Ending) (w' : World) : Prop :=
  ∃ (r : Ret) (us gs : List Int) (rest' : List UInt8) (bad' : Bool), e = .returned (.agg #[.int .i64 r.num, .int .i64 r.ord, .int .i64 r.rea, .int .i64 r.want, .int .i64 r.res, .bool r.cred, .int .i64 r.st, .int .i64 r.day, .slice r.uA r.uN r.uC, .slice r.gA r.gN r.gC, .int .i64 r.wor, .int .i64 r.pai, .int .i64 r.cre, .int .i64 r.giv]) ∧ NewLi w' w.heap.size r.uA r.uN r.uC us ∧ NewLi w' w.heap.size r.gA r.gN r.gC gs ∧ InAt w' p S rest' bad' ∧ Upd (fun k => k = p) w w' ∧ r.uN ≤ 200 ∧ r.gN = r.uN ∧ Fit64 r us gs ∧ ReadP rest bad r us gs rest' bad'

set_option maxHeartbeats 8000000 in
theorem rma_read {w : World} {p : Nat} {S : Nat → Prop} {rest : List UInt8} {bad : Bool} (h : InAt w p S rest bad) :
    Calls Tryd.prog 47 #[.pointer (some ⟨p, 0, none⟩)] w (ReadR w p S rest bad) := by
  have hpl := h.lt p h.own
  obtain ⟨W, hW, hs2, hb2, X1⟩ := one_box w 32 ret0
  unfold ret0 at hW
  dsimp only at hW
  have HLT : Hid (∀ k, S k → k < w.heap.size) := h.lt
  have HNP : Hid (w.heap.size ≠ p) := by show _ ≠ _; omega
  have I0 : Aside (InAt W p S rest bad) := h.below hb2
  have U0 : Aside (Upd (fun k => k = p) w W) := (Upd.below hb2 (S := fun _ => False)).mono (fun _ _ x => x.elim)
  have X0 : Aside (RetBox W w.heap.size 32 ret0) := X1
  have HPL := Lib.hid hpl
  clear h X1 hb2 hs2 hpl
  go_enter Tryd.func47, Tryd.ntmps47
  go_upto_region 1 with (fail)
  rw [← hW]
  clear hW
  obtain ⟨g2, hg2⟩ : ∃ g, g = w.heap.size := ⟨_, rfl⟩
  rw [← hg2] at X0 HNP ⊢
  have HG2 := Lib.hid hg2
  clear hg2
  have HC : Aside _ := in_u8p I0.out
  go_wp2_with fail
  refine Calls.mono HC.out ?_
  rintro e w1 ⟨v0, r1, b1, rfl, i9, u9, ⟨l0, m0⟩, p9⟩
  have I1 : Aside (InAt w1 p S r1 b1) := i9
  have U1 : Aside (Upd (fun k => k = p) w w1) := U0.out.trans u9 (fun _ _ x => x)
  have X1 : Aside (RetBox w1 g2 32 ret0) := X0.out.upd u9 HNP.out
  have P0 := Lib.hid p9
  have B0 : Hid (0 ≤ v0 ∧ v0 < 256) := ⟨l0, m0⟩
  clear HC i9 u9 p9 I0 U0 X0
  have HC : Aside _ := in_u8p I1.out
  go_wp2_with fail
  refine Calls.mono HC.out ?_
  rintro e w2 ⟨v1, r2, b2, rfl, i9, u9, ⟨l1, m1⟩, p9⟩
  have I2 : Aside (InAt w2 p S r2 b2) := i9
  have U2 : Aside (Upd (fun k => k = p) w w2) := U1.out.trans u9 (fun _ _ x => x)
  have X2 : Aside (RetBox w2 g2 32 ret0) := X1.out.upd u9 HNP.out
  have P1 := Lib.hid p9
  have B1 : Hid (0 ≤ v1 ∧ v1 < 256) := ⟨l1, m1⟩
  clear HC i9 u9 p9 I1 U1 X1
  have HC : Aside _ := in_u8p I2.out
  go_wp2_with fail
  refine Calls.mono HC.out ?_
  rintro e w3 ⟨v2, r3, b3, rfl, i9, u9, ⟨l2, m2⟩, p9⟩
  have I3 : Aside (InAt w3 p S r3 b3) := i9
  have U3 : Aside (Upd (fun k => k = p) w w3) := U2.out.trans u9 (fun _ _ x => x)
  have X3 : Aside (RetBox w3 g2 32 ret0) := X2.out.upd u9 HNP.out
  have P2 := Lib.hid p9
  have B2 : Hid (0 ≤ v2 ∧ v2 < 256) := ⟨l2, m2⟩
  clear HC i9 u9 p9 I2 U2 X2
  have HC : Aside _ := in_u16p I3.out
  go_wp2_with fail
  refine Calls.mono HC.out ?_
  rintro e w4 ⟨v3, r4, b4, rfl, i9, u9, ⟨l3, m3⟩, p9⟩
  have I4 : Aside (InAt w4 p S r4 b4) := i9
  have U4 : Aside (Upd (fun k => k = p) w w4) := U3.out.trans u9 (fun _ _ x => x)
  have X4 : Aside (RetBox w4 g2 32 ret0) := X3.out.upd u9 HNP.out
  have P3 := Lib.hid p9
  have B3 : Hid (0 ≤ v3 ∧ v3 < 65536) := ⟨l3, m3⟩
  clear HC i9 u9 p9 I3 U3 X3
  have HC : Aside _ := in_u16p I4.out
  go_wp2_with fail
  refine Calls.mono HC.out ?_
  rintro e w5 ⟨v4, r5, b5, rfl, i9, u9, ⟨l4, m4⟩, p9⟩
  have I5 : Aside (InAt w5 p S r5 b5) := i9
  have U5 : Aside (Upd (fun k => k = p) w w5) := U4.out.trans u9 (fun _ _ x => x)
  have X5 : Aside (RetBox w5 g2 32 ret0) := X4.out.upd u9 HNP.out
  have P4 := Lib.hid p9
  have B4 : Hid (0 ≤ v4 ∧ v4 < 65536) := ⟨l4, m4⟩
  clear HC i9 u9 p9 I4 U4 X4
  have HC : Aside _ := in_flagp I5.out
  go_wp2_with fail
  refine Calls.mono HC.out ?_
  rintro e w6 ⟨v5, r6, b6, rfl, i9, u9, -, p9⟩
  have I6 : Aside (InAt w6 p S r6 b6) := i9
  have U6 : Aside (Upd (fun k => k = p) w w6) := U5.out.trans u9 (fun _ _ x => x)
  have X6 : Aside (RetBox w6 g2 32 ret0) := X5.out.upd u9 HNP.out
  have P5 := Lib.hid p9
  clear HC i9 u9 p9 I5 U5 X5
  have HC : Aside _ := in_u8p I6.out
  go_wp2_with fail
  refine Calls.mono HC.out ?_
  rintro e w7 ⟨v6, r7, b7, rfl, i9, u9, ⟨l6, m6⟩, p9⟩
  have I7 : Aside (InAt w7 p S r7 b7) := i9
  have U7 : Aside (Upd (fun k => k = p) w w7) := U6.out.trans u9 (fun _ _ x => x)
  have X7 : Aside (RetBox w7 g2 32 ret0) := X6.out.upd u9 HNP.out
  have P6 := Lib.hid p9
  have B6 : Hid (0 ≤ v6 ∧ v6 < 256) := ⟨l6, m6⟩
  clear HC i9 u9 p9 I6 U6 X6
  have HC : Aside _ := in_u32p I7.out
  go_wp2_with fail
  refine Calls.mono HC.out ?_
  rintro e w8 ⟨v7, r8, b8, rfl, i9, u9, ⟨l7, m7⟩, p9⟩
  have I8 : Aside (InAt w8 p S r8 b8) := i9
  have U8 : Aside (Upd (fun k => k = p) w w8) := U7.out.trans u9 (fun _ _ x => x)
  have X8 : Aside (RetBox w8 g2 32 ret0) := X7.out.upd u9 HNP.out
  have P7 := Lib.hid p9
  have B7 : Hid (0 ≤ v7 ∧ v7 < 4294967296) := ⟨l7, m7⟩
  clear HC i9 u9 p9 I7 U7 X7
  go_upto_region 2 with (refine wpList_store_new rfl 32 _ _ rfl _ _ rfl rfl (by kernel_rfl) rfl rfl ?_)
  have Y0 : Aside (RetBox (w8.alloc (.cells #[.int .i64 v0, .int .i64 v1, .int .i64 v2, .int .i64 v3, .int .i64 (v4 - 1), .bool v5, .int .i64 v6, .int .i64 v7, .slice none 0 0, .slice none 0 0, .int .i64 0, .int .i64 0, .int .i64 0, .int .i64 0] 32)) w8.heap.size 32 ⟨v0, v1, v2, v3, v4 - 1, v5, v6, v7, none, 0, 0, none, 0, 0, 0, 0, 0, 0⟩) := RetBox.made w8 32 ⟨v0, v1, v2, v3, v4 - 1, v5, v6, v7, none, 0, 0, none, 0, 0, 0, 0, 0, 0⟩
  have I9 : Aside (InAt (w8.alloc (.cells #[.int .i64 v0, .int .i64 v1, .int .i64 v2, .int .i64 v3, .int .i64 (v4 - 1), .bool v5, .int .i64 v6, .int .i64 v7, .slice none 0 0, .slice none 0 0, .int .i64 0, .int .i64 0, .int .i64 0, .int .i64 0] 32)) p S r8 b8) := I8.out.below (upd_box _)
  have U9 : Aside (Upd (fun k => k = p) w (w8.alloc (.cells #[.int .i64 v0, .int .i64 v1, .int .i64 v2, .int .i64 v3, .int .i64 (v4 - 1), .bool v5, .int .i64 v6, .int .i64 v7, .slice none 0 0, .slice none 0 0, .int .i64 0, .int .i64 0, .int .i64 0, .int .i64 0] 32))) := U8.out.alloc _
  have X9 : Aside (RetBox (w8.alloc (.cells #[.int .i64 v0, .int .i64 v1, .int .i64 v2, .int .i64 v3, .int .i64 (v4 - 1), .bool v5, .int .i64 v6, .int .i64 v7, .slice none 0 0, .slice none 0 0, .int .i64 0, .int .i64 0, .int .i64 0, .int .i64 0] 32)) g2 32 ret0) := X8.out.below (upd_box _)
  have HL8 : Hid (g2 < w8.heap.size ∧ w.heap.size ≤ w8.heap.size ∧ (w8.alloc (.cells #[.int .i64 v0, .int .i64 v1, .int .i64 v2, .int .i64 v3, .int .i64 (v4 - 1), .bool v5, .int .i64 v6, .int .i64 v7, .slice none 0 0, .slice none 0 0, .int .i64 0, .int .i64 0, .int .i64 0, .int .i64 0] 32)).heap.size = w8.heap.size + 1) := ⟨X8.out.lt, U8.out.size, by simp⟩
  obtain ⟨g3, hg3⟩ : ∃ g, g = w8.heap.size := ⟨_, rfl⟩
  rw [← hg3] at Y0 HL8 ⊢
  have HG3 : Hid (g3 ≠ p ∧ g3 ≠ g2 ∧ w.heap.size ≤ g3) := ⟨by have := HL8.out; have := HPL.out; omega, by have := HL8.out; omega, HL8.out.2.1⟩
  have HZ9 : Hid ((w8.alloc (.cells #[.int .i64 v0, .int .i64 v1, .int .i64 v2, .int .i64 v3, .int .i64 (v4 - 1), .bool v5, .int .i64 v6, .int .i64 v7, .slice none 0 0, .slice none 0 0, .int .i64 0, .int .i64 0, .int .i64 0, .int .i64 0] 32)).heap.size = g3 + 1) := HL8.out.2.2
  clear hg3 I8 U8 X8 HL8
  generalize w8.alloc (.cells #[.int .i64 v0, .int .i64 v1, .int .i64 v2, .int .i64 v3, .int .i64 (v4 - 1), .bool v5, .int .i64 v6, .int .i64 v7, .slice none 0 0, .slice none 0 0, .int .i64 0, .int .i64 0, .int .i64 0, .int .i64 0] 32) = w9 at *
  have HC : Aside _ := in_mostp I9.out
  go_wp2_with fail
  refine Calls.mono HC.out ?_
  rintro e w10 ⟨N, r9, b9, rfl, i9, u9, hN, p9⟩
  have I10 : Aside (InAt w10 p S r9 b9) := i9
  have U10 : Aside (Upd (fun k => k = p) w w10) := U9.out.trans u9 (fun _ _ x => x)
  have X10 : Aside (RetBox w10 g2 32 ret0) := X9.out.upd u9 HNP.out
  have Y10 : Aside (RetBox w10 g3 32 ⟨v0, v1, v2, v3, v4 - 1, v5, v6, v7, none, 0, 0, none, 0, 0, 0, 0, 0, 0⟩) := Y0.out.upd u9 HG3.out.1
  have HZ10 : Hid (g3 < w10.heap.size) := by have := HZ9.out; have := u9.size; show _ < _; omega
  have P8 := Lib.hid p9
  clear HC i9 u9 p9 I9 U9 X9 Y0 HZ9
  have HC : Aside _ := rma_list I10.out 0 N (.inl rfl) (by omega)
  go_wp2_with fail
  refine Calls.mono HC.out ?_
  rintro e w11 ⟨gu, us, r10, b10, rfl, n9, i9, u9, d9, p9⟩
  have I11 : Aside (InAt w11 p S r10 b10) := i9
  have U11 : Aside (Upd (fun k => k = p) w w11) := U10.out.trans u9 (fun _ _ x => x)
  have X11 : Aside (RetBox w11 g2 32 ret0) := X10.out.upd u9 HNP.out
  have Y11 : Aside (RetBox w11 g3 32 ⟨v0, v1, v2, v3, v4 - 1, v5, v6, v7, none, 0, 0, none, 0, 0, 0, 0, 0, 0⟩) := Y10.out.upd u9 HG3.out.1
  have HZ11 : Hid (g3 < w11.heap.size) := by have := HZ10.out; have := u9.size; show _ < _; omega
  have P9 := Lib.hid p9
  have D9 : Hid (∀ x ∈ us, -1 ≤ x ∧ x < 256) := d9
  have N9 : Aside (NewLi w11 (g3 + 1) (some ⟨gu, 0, none⟩) N N us) := n9.lower HZ10.out
  clear HC i9 u9 p9 n9 d9 I10 U10 X10 Y10
  have HC : Aside _ := rma_list I11.out 1 N (.inr rfl) (by omega)
  go_wp2_with fail
  refine Calls.mono HC.out ?_
  rintro e w12 ⟨gg, gs, r11, b11, rfl, n9, i9, u9, d9, p9⟩
  have I12 : Aside (InAt w12 p S r11 b11) := i9
  have U12 : Aside (Upd (fun k => k = p) w w12) := U11.out.trans u9 (fun _ _ x => x)
  have X12 : Aside (RetBox w12 g2 32 ret0) := X11.out.upd u9 HNP.out
  have Y12 : Aside (RetBox w12 g3 32 ⟨v0, v1, v2, v3, v4 - 1, v5, v6, v7, none, 0, 0, none, 0, 0, 0, 0, 0, 0⟩) := Y11.out.upd u9 HG3.out.1
  have HZ12 : Hid (g3 < w12.heap.size) := by have := HZ11.out; have := u9.size; show _ < _; omega
  have P10 := Lib.hid p9
  have D10 : Hid (∀ x ∈ gs, -1 ≤ x ∧ x < 256) := d9
  have N10 : Aside (NewLi w12 (g3 + 1) (some ⟨gg, 0, none⟩) N N gs) := n9.lower HZ11.out
  have N9' : Aside (NewLi w12 (g3 + 1) (some ⟨gu, 0, none⟩) N N us) := N9.out.upd u9 (fun q h1 _ e => by have := HG3.out; have := HPL.out; omega)
  clear HC i9 u9 p9 n9 d9 I11 U11 X11 Y11 N9
  obtain ⟨-, -, -, -, -, -, -, -, y8, y9, -⟩ := Y12.out.cells
  have yf := Y12.out.fz
  have hl3 := HZ12.out
  go_upto_region 4 with (fail)
  have hu3 : Upd (fun k => k = g3) w12 ((w12.setCell ⟨g3, 8, none⟩ (.slice (some ⟨gu, 0, none⟩) N N)).setCell ⟨g3, 9, none⟩ (.slice (some ⟨gg, 0, none⟩) N N)) := upd_g (upd_g (Upd.refl _ _))
  have I13 : Aside (InAt ((w12.setCell ⟨g3, 8, none⟩ (.slice (some ⟨gu, 0, none⟩) N N)).setCell ⟨g3, 9, none⟩ (.slice (some ⟨gg, 0, none⟩) N N)) p S r11 b11) := I12.out.upd hu3 (fun k hk e => by have := HLT.out k hk; have := HG3.out; omega)
  have U13 : Aside (Upd (fun k => k = p) w ((w12.setCell ⟨g3, 8, none⟩ (.slice (some ⟨gu, 0, none⟩) N N)).setCell ⟨g3, 9, none⟩ (.slice (some ⟨gg, 0, none⟩) N N))) := U12.out.trans (hu3.mono (S' := fun k => w.heap.size ≤ k) (fun k _ e => by have := HG3.out; omega)) (fun k hk e => by omega)
  have X13 : Aside (RetBox ((w12.setCell ⟨g3, 8, none⟩ (.slice (some ⟨gu, 0, none⟩) N N)).setCell ⟨g3, 9, none⟩ (.slice (some ⟨gg, 0, none⟩) N N)) g2 32 ret0) := X12.out.upd hu3 (fun e => HG3.out.2.1 e.symm)
  have Y13 : Aside (RetBox ((w12.setCell ⟨g3, 8, none⟩ (.slice (some ⟨gu, 0, none⟩) N N)).setCell ⟨g3, 9, none⟩ (.slice (some ⟨gg, 0, none⟩) N N)) g3 32 ⟨v0, v1, v2, v3, v4 - 1, v5, v6, v7, some ⟨gu, 0, none⟩, N, N, some ⟨gg, 0, none⟩, N, N, 0, 0, 0, 0⟩) := set89g Y12.out (some ⟨gu, 0, none⟩) N N (some ⟨gg, 0, none⟩) N N
  have NU13 : Aside (NewLi ((w12.setCell ⟨g3, 8, none⟩ (.slice (some ⟨gu, 0, none⟩) N N)).setCell ⟨g3, 9, none⟩ (.slice (some ⟨gg, 0, none⟩) N N)) (g3 + 1) (some ⟨gu, 0, none⟩) N N us) := N9'.out.upd hu3 (fun q h1 _ e => by omega)
  have NG13 : Aside (NewLi ((w12.setCell ⟨g3, 8, none⟩ (.slice (some ⟨gu, 0, none⟩) N N)).setCell ⟨g3, 9, none⟩ (.slice (some ⟨gg, 0, none⟩) N N)) (g3 + 1) (some ⟨gg, 0, none⟩) N N gs) := N10.out.upd hu3 (fun q h1 _ e => by omega)
  have HZ13 : Hid (g3 < ((w12.setCell ⟨g3, 8, none⟩ (.slice (some ⟨gu, 0, none⟩) N N)).setCell ⟨g3, 9, none⟩ (.slice (some ⟨gg, 0, none⟩) N N)).heap.size) := by show _ < _; rw [setCell_size, setCell_size]; exact HZ12.out
  clear hu3 I12 U12 X12 Y12 N9' N10 y8 y9 yf hl3
  generalize (w12.setCell ⟨g3, 8, none⟩ (.slice (some ⟨gu, 0, none⟩) N N)).setCell ⟨g3, 9, none⟩ (.slice (some ⟨gg, 0, none⟩) N N) = w13 at *
  have HC : Aside _ := in_i64p I13.out
  go_wp2_with fail
  refine Calls.mono HC.out ?_
  rintro e w14 ⟨v10, r12, b12, rfl, i9, u9, c9, p9⟩
  have I14 : Aside (InAt w14 p S r12 b12) := i9
  have U14 : Aside (Upd (fun k => k = p) w w14) := U13.out.trans u9 (fun _ _ x => x)
  have X14 : Aside (RetBox w14 g2 32 ret0) := X13.out.upd u9 HNP.out
  have Y14 : Aside (RetBox w14 g3 32 ⟨v0, v1, v2, v3, v4 - 1, v5, v6, v7, some ⟨gu, 0, none⟩, N, N, some ⟨gg, 0, none⟩, N, N, 0, 0, 0, 0⟩) := Y13.out.upd u9 HG3.out.1
  have NU14 : Aside (NewLi w14 (g3 + 1) (some ⟨gu, 0, none⟩) N N us) := NU13.out.upd u9 (fun q h1 _ e => by have := HG3.out; have := HPL.out; omega)
  have NG14 : Aside (NewLi w14 (g3 + 1) (some ⟨gg, 0, none⟩) N N gs) := NG13.out.upd u9 (fun q h1 _ e => by have := HG3.out; have := HPL.out; omega)
  have P11 := Lib.hid p9
  have C0 : Hid (I64 v10) := c9
  clear HC i9 u9 p9 c9 I13 U13 X13 Y13 NU13 NG13
  have HC : Aside _ := in_i64p I14.out
  go_wp2_with fail
  refine Calls.mono HC.out ?_
  rintro e w15 ⟨v11, r13, b13, rfl, i9, u9, c9, p9⟩
  have I15 : Aside (InAt w15 p S r13 b13) := i9
  have U15 : Aside (Upd (fun k => k = p) w w15) := U14.out.trans u9 (fun _ _ x => x)
  have X15 : Aside (RetBox w15 g2 32 ret0) := X14.out.upd u9 HNP.out
  have Y15 : Aside (RetBox w15 g3 32 ⟨v0, v1, v2, v3, v4 - 1, v5, v6, v7, some ⟨gu, 0, none⟩, N, N, some ⟨gg, 0, none⟩, N, N, 0, 0, 0, 0⟩) := Y14.out.upd u9 HG3.out.1
  have NU15 : Aside (NewLi w15 (g3 + 1) (some ⟨gu, 0, none⟩) N N us) := NU14.out.upd u9 (fun q h1 _ e => by have := HG3.out; have := HPL.out; omega)
  have NG15 : Aside (NewLi w15 (g3 + 1) (some ⟨gg, 0, none⟩) N N gs) := NG14.out.upd u9 (fun q h1 _ e => by have := HG3.out; have := HPL.out; omega)
  have P12 := Lib.hid p9
  have C1 : Hid (I64 v11) := c9
  clear HC i9 u9 p9 c9 I14 U14 X14 Y14 NU14 NG14
  have HC : Aside _ := in_i64p I15.out
  go_wp2_with fail
  refine Calls.mono HC.out ?_
  rintro e w16 ⟨v12, r14, b14, rfl, i9, u9, c9, p9⟩
  have I16 : Aside (InAt w16 p S r14 b14) := i9
  have U16 : Aside (Upd (fun k => k = p) w w16) := U15.out.trans u9 (fun _ _ x => x)
  have X16 : Aside (RetBox w16 g2 32 ret0) := X15.out.upd u9 HNP.out
  have Y16 : Aside (RetBox w16 g3 32 ⟨v0, v1, v2, v3, v4 - 1, v5, v6, v7, some ⟨gu, 0, none⟩, N, N, some ⟨gg, 0, none⟩, N, N, 0, 0, 0, 0⟩) := Y15.out.upd u9 HG3.out.1
  have NU16 : Aside (NewLi w16 (g3 + 1) (some ⟨gu, 0, none⟩) N N us) := NU15.out.upd u9 (fun q h1 _ e => by have := HG3.out; have := HPL.out; omega)
  have NG16 : Aside (NewLi w16 (g3 + 1) (some ⟨gg, 0, none⟩) N N gs) := NG15.out.upd u9 (fun q h1 _ e => by have := HG3.out; have := HPL.out; omega)
  have P13 := Lib.hid p9
  have C2 : Hid (I64 v12) := c9
  clear HC i9 u9 p9 c9 I15 U15 X15 Y15 NU15 NG15
  have HC : Aside _ := in_i64p I16.out
  go_wp2_with fail
  refine Calls.mono HC.out ?_
  rintro e w17 ⟨v13, r15, b15, rfl, i9, u9, c9, p9⟩
  have I17 : Aside (InAt w17 p S r15 b15) := i9
  have U17 : Aside (Upd (fun k => k = p) w w17) := U16.out.trans u9 (fun _ _ x => x)
  have X17 : Aside (RetBox w17 g2 32 ret0) := X16.out.upd u9 HNP.out
  have Y17 : Aside (RetBox w17 g3 32 ⟨v0, v1, v2, v3, v4 - 1, v5, v6, v7, some ⟨gu, 0, none⟩, N, N, some ⟨gg, 0, none⟩, N, N, 0, 0, 0, 0⟩) := Y16.out.upd u9 HG3.out.1
  have NU17 : Aside (NewLi w17 (g3 + 1) (some ⟨gu, 0, none⟩) N N us) := NU16.out.upd u9 (fun q h1 _ e => by have := HG3.out; have := HPL.out; omega)
  have NG17 : Aside (NewLi w17 (g3 + 1) (some ⟨gg, 0, none⟩) N N gs) := NG16.out.upd u9 (fun q h1 _ e => by have := HG3.out; have := HPL.out; omega)
  have P14 := Lib.hid p9
  have C3 : Hid (I64 v13) := c9
  clear HC i9 u9 p9 c9 I16 U16 X16 Y16 NU16 NG16
  obtain ⟨-, -, -, -, -, -, -, -, -, -, y10, y11, y12, y13⟩ := Y17.out.cells
  have yf := Y17.out.fz
  have hl3 := Y17.out.lt
  go_upto_region 5 with (fail)
  have hu3 : Upd (fun k => k = g3) w17 ((((w17.setCell ⟨g3, 10, none⟩ (.int .i64 v10)).setCell ⟨g3, 11, none⟩ (.int .i64 v11)).setCell ⟨g3, 12, none⟩ (.int .i64 v12)).setCell ⟨g3, 13, none⟩ (.int .i64 v13)) := upd_g (upd_g (upd_g (upd_g (Upd.refl _ _))))
  have I18 : Aside (InAt ((((w17.setCell ⟨g3, 10, none⟩ (.int .i64 v10)).setCell ⟨g3, 11, none⟩ (.int .i64 v11)).setCell ⟨g3, 12, none⟩ (.int .i64 v12)).setCell ⟨g3, 13, none⟩ (.int .i64 v13)) p S r15 b15) := I17.out.upd hu3 (fun k hk e => by have := HLT.out k hk; have := HG3.out; omega)
  have U18 : Aside (Upd (fun k => k = p) w ((((w17.setCell ⟨g3, 10, none⟩ (.int .i64 v10)).setCell ⟨g3, 11, none⟩ (.int .i64 v11)).setCell ⟨g3, 12, none⟩ (.int .i64 v12)).setCell ⟨g3, 13, none⟩ (.int .i64 v13))) := U17.out.trans (hu3.mono (S' := fun k => w.heap.size ≤ k) (fun k _ e => by have := HG3.out; omega)) (fun k hk e => by omega)
  have X18 : Aside (RetBox ((((w17.setCell ⟨g3, 10, none⟩ (.int .i64 v10)).setCell ⟨g3, 11, none⟩ (.int .i64 v11)).setCell ⟨g3, 12, none⟩ (.int .i64 v12)).setCell ⟨g3, 13, none⟩ (.int .i64 v13)) g2 32 ret0) := X17.out.upd hu3 (fun e => HG3.out.2.1 e.symm)
  have Y18 : Aside (RetBox ((((w17.setCell ⟨g3, 10, none⟩ (.int .i64 v10)).setCell ⟨g3, 11, none⟩ (.int .i64 v11)).setCell ⟨g3, 12, none⟩ (.int .i64 v12)).setCell ⟨g3, 13, none⟩ (.int .i64 v13)) g3 32 ⟨v0, v1, v2, v3, v4 - 1, v5, v6, v7, some ⟨gu, 0, none⟩, N, N, some ⟨gg, 0, none⟩, N, N, v10, v11, v12, v13⟩) := set4g Y17.out v10 v11 v12 v13
  have NU18 : Aside (NewLi ((((w17.setCell ⟨g3, 10, none⟩ (.int .i64 v10)).setCell ⟨g3, 11, none⟩ (.int .i64 v11)).setCell ⟨g3, 12, none⟩ (.int .i64 v12)).setCell ⟨g3, 13, none⟩ (.int .i64 v13)) (g3 + 1) (some ⟨gu, 0, none⟩) N N us) := NU17.out.upd hu3 (fun q h1 _ e => by omega)
  have NG18 : Aside (NewLi ((((w17.setCell ⟨g3, 10, none⟩ (.int .i64 v10)).setCell ⟨g3, 11, none⟩ (.int .i64 v11)).setCell ⟨g3, 12, none⟩ (.int .i64 v12)).setCell ⟨g3, 13, none⟩ (.int .i64 v13)) (g3 + 1) (some ⟨gg, 0, none⟩) N N gs) := NG17.out.upd hu3 (fun q h1 _ e => by omega)
  clear hu3 I17 U17 X17 Y17 NU17 NG17 y10 y11 y12 y13 yf hl3
  generalize (((w17.setCell ⟨g3, 10, none⟩ (.int .i64 v10)).setCell ⟨g3, 11, none⟩ (.int .i64 v11)).setCell ⟨g3, 12, none⟩ (.int .i64 v12)).setCell ⟨g3, 13, none⟩ (.int .i64 v13) = V at *
  have HCV : Aside (∀ j v, (#[.int .i64 v0, .int .i64 v1, .int .i64 v2, .int .i64 v3, .int .i64 (v4 - 1), .bool v5, .int .i64 v6, .int .i64 v7, .slice (some ⟨gu, 0, none⟩) N N, .slice (some ⟨gg, 0, none⟩) N N, .int .i64 v10, .int .i64 v11, .int .i64 v12, .int .i64 v13] : Array Value)[j]? = some v → V.cell? ⟨g3, 0 + j, none⟩ = some v) := Y18.out.at_cells
  obtain ⟨z0, z1, z2, z3, z4, z5, z6, z7, z8, z9, z10, z11, z12, z13⟩ := X18.out.cells
  have zf := X18.out.fz
  have HF : Aside _ := set14_at X18.out ⟨v0, v1, v2, v3, v4 - 1, v5, v6, v7, some ⟨gu, 0, none⟩, N, N, some ⟨gg, 0, none⟩, N, N, v10, v11, v12, v13⟩
  have HFU : Aside _ := set14_upd V g2 ⟨v0, v1, v2, v3, v4 - 1, v5, v6, v7, some ⟨gu, 0, none⟩, N, N, some ⟨gg, 0, none⟩, N, N, v10, v11, v12, v13⟩
  unfold set14 at HF HFU
  dsimp only at HF HFU
  have hLU := HFU.out
  have HLU : Aside (w.heap.size ≤ g2) := by show _ ≤ _; have := HG2.out; omega
  clear X18 Y18 hLU
  go_wp2_with (refine wpList_load_cells rfl 32 _ rfl g3 0 rfl _ _ HCV.out Tryd.underlying32 rfl (by kernel_rfl) ?_)
  refine bodyPost_ret (results_cell_row rfl _ _ g2 32 #[.int .i64 v0, .int .i64 v1, .int .i64 v2, .int .i64 v3, .int .i64 (v4 - 1), .bool v5, .int .i64 v6, .int .i64 v7, .slice (some ⟨gu, 0, none⟩) N N, .slice (some ⟨gg, 0, none⟩) N N, .int .i64 v10, .int .i64 v11, .int .i64 v12, .int .i64 v13] (0, 0) _ rfl HF.out.at' Tryd.underlying32 rfl info_ret) rfl ?_
  have hp := HPL.out
  have h3 := HG3.out
  have h2 := HG2.out
  refine ⟨⟨v0, v1, v2, v3, v4 - 1, v5, v6, v7, some ⟨gu, 0, none⟩, N, N, some ⟨gg, 0, none⟩, N, N, v10, v11, v12, v13⟩, us, gs, r15, b15, rfl, (NU18.out.upd HFU.out (fun q h1 _ e => by omega)).lower (by omega), (NG18.out.upd HFU.out (fun q h1 _ e => by omega)).lower (by omega), I18.out.upd HFU.out (fun k hk e => by have := HLT.out k hk; omega), U18.out.trans (HFU.out.mono (S' := fun k => w.heap.size ≤ k) (fun k _ e => by omega)) (fun k hk e => by omega), hN, rfl, ?_, ?_⟩
  · have q0 := B0.out
    have q1 := B1.out
    have q2 := B2.out
    have q3 := B3.out
    have q4 := B4.out
    have q6 := B6.out
    have q7 := B7.out
    exact ⟨by unfold I64; simp only; omega, by unfold I64; simp only; omega, by unfold I64; simp only; omega, by unfold I64; simp only; omega, by unfold I64; simp only; omega, by unfold I64; simp only; omega, by unfold I64; simp only; omega, C0.out, C1.out, C2.out, C3.out, fun x hx => by have := D9.out x hx; unfold I64; omega, fun x hx => by have := D10.out x hx; unfold I64; omega⟩
  · exact read_par _ _ _ _ P0.out P1.out P2.out P3.out P4.out P5.out P6.out P7.out P8.out P9.out P10.out P11.out P12.out P13.out P14.out
end Go.Proofs.YtkjkamcjbhhefaaDoor
