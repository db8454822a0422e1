/-
  Package command: read. Conditions: those of each theorem.
-/
import Derived.Test.YtmaoimjfkncnpaaCmOut
import Derived.Test.YtmaoimjfkncnpaaCmUnits
import Derived.Test.YtmaoimjfkncnpaaCmEq
namespace Go.Proofs.Ytmaoimjfkncnpaa
open Go.RowKit
set_option maxRecDepth 100000

theorem fits1 {v : Int} (h0 : 0 ≤ v) (h1 : v < 256) : fits v 1 = true := by simp [fits]; omega
theorem fits2 {v : Int} (h0 : 0 ≤ v) (h1 : v < 65536) : fits v 2 = true := by simp [fits]; omega
theorem fits4 {v : Int} (h0 : 0 ≤ v) (h1 : v < 4294967296) : fits v 4 = true := by simp [fits]; omega
/-- What was read, all of it. -/
structure ReadP (rest : List UInt8) (bad : Bool) (r : Com) (us : List Int) (rest' : List UInt8) (bad' : Bool) : Prop where
  shape : Loose r us ∨ (r = com0 ∧ us = [])
  fwd : bad' = false → Loose r us → bad = false ∧ rest = comBytes r us ++ rest'
  bwd : ∀ c us0 t, bad = false → Loose c us0 → rest = comBytes c us0 ++ t → sameB r c us us0 = true ∧ bad' = false ∧ rest' = t
abbrev P1 (r : List UInt8) (b : Bool) (v : Int) (r' : List UInt8) (b' : Bool) : Prop := Par (fun v : Int => le v 1) (fun v => fits v 1 = true) r b v r' b'
abbrev P2 (r : List UInt8) (b : Bool) (v : Int) (r' : List UInt8) (b' : Bool) : Prop := Par (fun v : Int => le v 2) (fun v => fits v 2 = true) r b v r' b'
abbrev P4 (r : List UInt8) (b : Bool) (v : Int) (r' : List UInt8) (b' : Bool) : Prop := Par (fun v : Int => le v 4) (fun v => fits v 4 = true) r b v r' b'
abbrev PF (r : List UInt8) (b : Bool) (v : Bool) (r' : List UInt8) (b' : Bool) : Prop := Par (fun v : Bool => le (flagI v) 1) (fun _ => True) r b v r' b'
section
variable {r0 r1 r2 r3 r4 r5 r6 : List UInt8} {b0 b1 b2 b3 b4 b5 b6 : Bool}
/-- The kind, as the bytes have it. -/
theorem kind_bwd {k : Int} (p0 : P1 r0 b0 k r1 b1) {c : Com} {us : List Int} {t : List UInt8} (hb : b0 = false) (hl : Loose c us) (he : r0 = comBytes c us ++ t) : k = c.kind ∧ b1 = false ∧ comBytes c us ++ t = le c.kind 1 ++ r1 := by
  have h := he
  unfold comBytes at h
  rw [List.append_assoc] at h
  have hk := hl.kind
  obtain ⟨a, e, d⟩ := p0.bwd c.kind _ hb (fits1 (by omega) (by omega)) h
  refine ⟨a, d, ?_⟩
  rw [e]
  unfold comBytes
  rw [List.append_assoc]
theorem read_none {k : Int} (p0 : P1 r0 b0 k r1 b1) (hk : ¬ (1 ≤ k ∧ k ≤ 8)) : ReadP r0 b0 com0 [] r1 b1 := by
  refine ⟨.inr ⟨rfl, rfl⟩, fun _ h => ?_, fun c us t hb hl he => ?_⟩
  · have := h.kind
    simp [com0] at this
  · obtain ⟨a, -, -⟩ := kind_bwd p0 hb hl he
    have := hl.kind
    omega
theorem read_rma {k v : Int} (hk : k = 2 ∨ k = 3 ∨ k = 4 ∨ k = 5) (p0 : P1 r0 b0 k r1 b1) (p1 : P2 r1 b1 v r2 b2) (h0 : 0 ≤ v) (h1 : v < 65536) : ReadP r0 b0 ⟨k, 0, none, 0, 0, 0, 0, false, v, 0, 0, 0, 0, false⟩ [] r2 b2 := by
  refine ⟨.inl ⟨by dsimp only; omega, ⟨fun e => by dsimp only at e; omega, fun _ _ => fits2 h0 h1, fun e => by dsimp only at e; omega, fun e => by dsimp only at e; omega, fun e => by dsimp only at e; omega⟩, ⟨fun _ => ⟨rfl, rfl, rfl, rfl, rfl⟩, fun e => by dsimp only at e; omega, fun _ => ⟨rfl, rfl⟩, fun _ => rfl, fun _ => ⟨rfl, rfl⟩⟩⟩, fun hb _ => ?_, fun c us t hb hl he => ?_⟩
  · obtain ⟨q1, -, q3⟩ := p1.fwd hb
    obtain ⟨s1, -, s3⟩ := p0.fwd q1
    refine ⟨s1, ?_⟩
    have e1 : ¬ k = 1 := by omega
    have e6 : ¬ k = 6 := by omega
    have e7 : ¬ k = 7 := by omega
    have e8 : ¬ k = 8 := by omega
    unfold comBytes
    rw [if_neg e1, if_neg e6, if_neg e7, if_neg e8, s3, q3, List.append_assoc]
  · obtain ⟨a, d, e⟩ := kind_bwd p0 hb hl he
    obtain ⟨ck, c1, ca, cn, cc, c3, c4, c5, c6, c7, c8, c9, c10, c11⟩ := c
    dsimp only at a
    subst a
    have e1 : ¬ k = 1 := by omega
    have e6 : ¬ k = 6 := by omega
    have e7 : ¬ k = 7 := by omega
    have e8 : ¬ k = 8 := by omega
    unfold comBytes at e
    rw [if_neg e1, if_neg e6, if_neg e7, if_neg e8, List.append_assoc] at e
    obtain ⟨x, y, z⟩ := p1.bwd c6 t d (hl.fit.rma (by dsimp only; omega) (by dsimp only; omega)) (List.append_cancel_left e).symm
    obtain ⟨z1, z2, z3, z4, z5⟩ := hl.rest.req e1
    obtain ⟨z6, z7⟩ := hl.rest.grd e6
    have z8 := hl.rest.day e7
    obtain ⟨z9, z10⟩ := hl.rest.key e8
    dsimp only at z1 z2 z3 z4 z5 z6 z7 z8 z9 z10
    refine ⟨?_, z, y⟩
    subst x z1 z2 z3 z4 z5 z6 z7 z8 z9 z10
    simp [sameB, eqInts]
theorem read_grade {v u g : Int} (p0 : P1 r0 b0 6 r1 b1) (p1 : P2 r1 b1 v r2 b2) (p2 : P1 r2 b2 u r3 b3) (p3 : P1 r3 b3 g r4 b4) (h1 : 0 ≤ v ∧ v < 65536) (h2 : 0 ≤ u ∧ u < 256) (h3 : 0 ≤ g ∧ g < 256) : ReadP r0 b0 ⟨6, 0, none, 0, 0, 0, 0, false, v, u, g, 0, 0, false⟩ [] r4 b4 := by
  refine ⟨.inl ⟨by dsimp only; omega, ⟨fun e => by dsimp only at e; omega, fun _ _ => fits2 h1.1 h1.2, fun _ => ⟨fits1 h2.1 h2.2, fits1 h3.1 h3.2⟩, fun e => by dsimp only at e; omega, fun e => by dsimp only at e; omega⟩, ⟨fun _ => ⟨rfl, rfl, rfl, rfl, rfl⟩, fun e => by dsimp only at e; omega, fun e => absurd rfl e, fun _ => rfl, fun _ => ⟨rfl, rfl⟩⟩⟩, fun hb _ => ?_, fun c us t hb hl he => ?_⟩
  · obtain ⟨m1, -, m3⟩ := p3.fwd hb
    obtain ⟨n1, -, n3⟩ := p2.fwd m1
    obtain ⟨q1, -, q3⟩ := p1.fwd n1
    obtain ⟨s1, -, s3⟩ := p0.fwd q1
    refine ⟨s1, ?_⟩
    rw [s3, q3, n3, m3]
    simp [comBytes]
  · obtain ⟨a, d, e⟩ := kind_bwd p0 hb hl he
    obtain ⟨ck, c1, ca, cn, cc, c3, c4, c5, c6, c7, c8, c9, c10, c11⟩ := c
    dsimp only at a
    subst a
    have e := e
    simp only [comBytes, List.append_assoc, if_neg (show ¬ (6 : Int) = 1 by decide), ↓reduceIte] at e
    obtain ⟨x, y, z⟩ := p1.bwd c6 _ d (hl.fit.rma (by dsimp only; omega) (by dsimp only; omega)) (List.append_cancel_left e).symm
    obtain ⟨x2, y2, z2⟩ := p2.bwd c7 _ z (hl.fit.grd rfl).1 y
    obtain ⟨x3, y3, w3⟩ := p3.bwd c8 _ z2 (hl.fit.grd rfl).2 y2
    obtain ⟨z1, z2, z3, z4, z5⟩ := hl.rest.req (by dsimp only; omega)
    have z8 := hl.rest.day (by dsimp only; omega)
    obtain ⟨z9, z10⟩ := hl.rest.key (by dsimp only; omega)
    dsimp only at z1 z2 z3 z4 z5 z8 z9 z10
    refine ⟨?_, w3, y3⟩
    subst x x2 x3 z1 z2 z3 z4 z5 z8 z9 z10
    simp [sameB, eqInts]
theorem read_tick {v : Int} (p0 : P1 r0 b0 7 r1 b1) (p1 : P2 r1 b1 v r2 b2) (h1 : 0 ≤ v ∧ v < 65536) : ReadP r0 b0 ⟨7, 0, none, 0, 0, 0, 0, false, 0, 0, 0, v, 0, false⟩ [] r2 b2 := by
  refine ⟨.inl ⟨by dsimp only; omega, ⟨fun e => by dsimp only at e; omega, fun _ e => by dsimp only at e; omega, fun e => by dsimp only at e; omega, fun _ => fits2 h1.1 h1.2, fun e => by dsimp only at e; omega⟩, ⟨fun _ => ⟨rfl, rfl, rfl, rfl, rfl⟩, fun _ => rfl, fun _ => ⟨rfl, rfl⟩, fun e => absurd rfl e, fun _ => ⟨rfl, rfl⟩⟩⟩, fun hb _ => ?_, fun c us t hb hl he => ?_⟩
  · obtain ⟨q1, -, q3⟩ := p1.fwd hb
    obtain ⟨s1, -, s3⟩ := p0.fwd q1
    refine ⟨s1, ?_⟩
    rw [s3, q3]
    simp [comBytes]
  · obtain ⟨a, d, e⟩ := kind_bwd p0 hb hl he
    obtain ⟨ck, c1, ca, cn, cc, c3, c4, c5, c6, c7, c8, c9, c10, c11⟩ := c
    dsimp only at a
    subst a
    simp only [comBytes, List.append_assoc, if_neg (show ¬ (7 : Int) = 1 by decide), if_neg (show ¬ (7 : Int) = 6 by decide), ↓reduceIte] at e
    obtain ⟨x, y, z⟩ := p1.bwd c9 _ d (hl.fit.day rfl) (List.append_cancel_left e).symm
    obtain ⟨z1, z2, z3, z4, z5⟩ := hl.rest.req (by dsimp only; omega)
    have z8 := hl.rest.rma (by dsimp only; omega)
    obtain ⟨z6, z7⟩ := hl.rest.grd (by dsimp only; omega)
    obtain ⟨z9, z10⟩ := hl.rest.key (by dsimp only; omega)
    dsimp only at z1 z2 z3 z4 z5 z6 z7 z8 z9 z10
    refine ⟨?_, z, y⟩
    subst x z1 z2 z3 z4 z5 z6 z7 z8 z9 z10
    simp [sameB, eqInts]
theorem read_reply {v : Int} {f : Bool} (p0 : P1 r0 b0 8 r1 b1) (p1 : P4 r1 b1 v r2 b2) (p2 : PF r2 b2 f r3 b3) (h1 : 0 ≤ v ∧ v < 4294967296) : ReadP r0 b0 ⟨8, 0, none, 0, 0, 0, 0, false, 0, 0, 0, 0, v, f⟩ [] r3 b3 := by
  refine ⟨.inl ⟨by dsimp only; omega, ⟨fun e => by dsimp only at e; omega, fun _ e => by dsimp only at e; omega, fun e => by dsimp only at e; omega, fun e => by dsimp only at e; omega, fun _ => fits4 h1.1 h1.2⟩, ⟨fun _ => ⟨rfl, rfl, rfl, rfl, rfl⟩, fun _ => rfl, fun _ => ⟨rfl, rfl⟩, fun _ => rfl, fun e => absurd rfl e⟩⟩, fun hb _ => ?_, fun c us t hb hl he => ?_⟩
  · obtain ⟨m1, -, m3⟩ := p2.fwd hb
    obtain ⟨q1, -, q3⟩ := p1.fwd m1
    obtain ⟨s1, -, s3⟩ := p0.fwd q1
    refine ⟨s1, ?_⟩
    rw [s3, q3, m3]
    simp [comBytes]
  · obtain ⟨a, d, e⟩ := kind_bwd p0 hb hl he
    obtain ⟨ck, c1, ca, cn, cc, c3, c4, c5, c6, c7, c8, c9, c10, c11⟩ := c
    dsimp only at a
    subst a
    simp only [comBytes, List.append_assoc, if_neg (show ¬ (8 : Int) = 1 by decide), if_neg (show ¬ (8 : Int) = 6 by decide), if_neg (show ¬ (8 : Int) = 7 by decide), ↓reduceIte] at e
    obtain ⟨x, y, z⟩ := p1.bwd c10 _ d (hl.fit.key rfl) (List.append_cancel_left e).symm
    obtain ⟨x2, y2, w2⟩ := p2.bwd c11 _ z trivial y
    obtain ⟨z1, z2, z3, z4, z5⟩ := hl.rest.req (by dsimp only; omega)
    have z8 := hl.rest.rma (by dsimp only; omega)
    obtain ⟨z6, z7⟩ := hl.rest.grd (by dsimp only; omega)
    have z9 := hl.rest.day (by dsimp only; omega)
    dsimp only at z1 z2 z3 z4 z5 z6 z7 z8 z9
    refine ⟨?_, w2, y2⟩
    subst x x2 z1 z2 z3 z4 z5 z6 z7 z8 z9
    simp [sameB, eqInts]
theorem read_req {v1 v3 v4 : Int} {v5 : Bool} {us : List Int} (uA : Option Addr) {N : Nat} (uC : Nat) (p0 : P1 r0 b0 1 r1 b1) (p1 : P1 r1 b1 v1 r2 b2) (p2 : Par encUnits okUnits r2 b2 us r3 b3) (p3 : P1 r3 b3 v3 r4 b4) (p4 : P2 r4 b4 v4 r5 b5) (p5 : PF r5 b5 v5 r6 b6)
    (h1 : 0 ≤ v1 ∧ v1 < 256) (h2 : ∀ x ∈ us, 0 ≤ x ∧ x < 256) (hl : us.length < 256) (h3 : 0 ≤ v3 ∧ v3 < 256) (h4 : 0 ≤ v4 ∧ v4 < 65536) : ReadP r0 b0 ⟨1, v1, uA, N, uC, v3, v4, v5, 0, 0, 0, 0, 0, false⟩ us r6 b6 := by
  refine ⟨.inl ⟨by dsimp only; omega, ⟨fun _ => ⟨fits1 h1.1 h1.2, fits1 (by omega) (by omega), fun x hx => by rw [Int.add_zero]; exact fits1 (h2 x hx).1 (h2 x hx).2, fits1 h3.1 h3.2, fits2 h4.1 h4.2⟩, fun e => by dsimp only at e; omega, fun e => by dsimp only at e; omega, fun e => by dsimp only at e; omega, fun e => by dsimp only at e; omega⟩, ⟨fun e => absurd rfl e, fun _ => rfl, fun _ => ⟨rfl, rfl⟩, fun _ => rfl, fun _ => ⟨rfl, rfl⟩⟩⟩, fun hb _ => ?_, fun c us0 t hb hl he => ?_⟩
  · obtain ⟨i1, -, i3⟩ := p5.fwd hb
    obtain ⟨j1, -, j3⟩ := p4.fwd i1
    obtain ⟨k1, -, k3⟩ := p3.fwd j1
    obtain ⟨m1, -, m3⟩ := p2.fwd k1
    obtain ⟨q1, -, q3⟩ := p1.fwd m1
    obtain ⟨s1, -, s3⟩ := p0.fwd q1
    refine ⟨s1, ?_⟩
    rw [s3, q3, m3, k3, j3, i3]
    simp [comBytes, reqBytes, encUnits]
  · obtain ⟨a, d, e⟩ := kind_bwd p0 hb hl he
    obtain ⟨ck, c1, ca, cn, cc, c3, c4, c5, c6, c7, c8, c9, c10, c11⟩ := c
    dsimp only at a
    subst a
    have hq := hl.fit.req rfl
    simp only [comBytes, reqBytes, List.append_assoc, ↓reduceIte] at e
    obtain ⟨x1, y1, d1⟩ := p1.bwd c1 _ d hq.ord (List.append_cancel_left e).symm
    obtain ⟨x2, y2, d2⟩ := p2.bwd us0 (le c3 1 ++ (le c4 2 ++ (le (flagI c5) 1 ++ t))) d1 ⟨hq.len, hq.us⟩ (by rw [y1, encUnits]; simp only [List.append_assoc])
    obtain ⟨x3, y3, d3⟩ := p3.bwd c3 _ d2 hq.rea y2
    obtain ⟨x4, y4, d4⟩ := p4.bwd c4 _ d3 hq.want y3
    obtain ⟨x5, y5, d5⟩ := p5.bwd c5 _ d4 trivial y4
    have z8 := hl.rest.rma (by dsimp only; omega)
    obtain ⟨z6, z7⟩ := hl.rest.grd (by dsimp only; omega)
    have z9 := hl.rest.day (by dsimp only; omega)
    obtain ⟨z10, z11⟩ := hl.rest.key (by dsimp only; omega)
    dsimp only at z6 z7 z8 z9 z10 z11
    refine ⟨?_, d5, y5⟩
    subst x1 x2 x3 x4 x5 z6 z7 z8 z9 z10 z11
    simp [sameB, eqInts]
end
theorem newLi0 (w : World) (B : Nat) : NewLi w B none 0 0 [] := ⟨rfl, Nat.le_refl _, Nat.zero_le _, fun _ => rfl, fun x => absurd x (Nat.lt_irrefl 0)⟩
def ReadR (w : World) (p : Nat) (S : Nat → Prop) (rest : List UInt8) (bad : Bool) (e : Ending) (w' : World) : Prop :=
  ∃ (r : Com) (us : List Int) (rest' : List UInt8) (bad' : Bool), e = .returned (.agg #[.int .i64 r.kind, .int .i64 r.ord, .slice r.uA r.uN r.uC, .int .i64 r.rea, .int .i64 r.want, .bool r.cred, .int .i64 r.rma, .int .i64 r.unit, .int .i64 r.grd, .int .i64 r.days, .int .i64 r.key, .bool r.yes]) ∧ NewLi w' w.heap.size r.uA r.uN r.uC us ∧ InAt w' p S rest' bad' ∧ Upd (fun k => k = p) w w' ∧ r.uN < 256 ∧ Fit64 r us ∧ ReadP rest bad r us rest' bad'
theorem i64s {v m : Int} (h : 0 ≤ v ∧ v < m) (hm : m ≤ 4294967296) : I64 v := by unfold I64; omega
theorem i640 : I64 0 := by unfold I64; omega

set_option maxHeartbeats 8000000 in
theorem cm_read {w : World} {p : Nat} {S : Nat → Prop} {rest : List UInt8} {bad : Bool} (h : InAt w p S rest bad) :
    Calls Try.prog 26 #[.pointer (some ⟨p, 0, none⟩)] w (ReadR w p S rest bad) := by
  have hpl := h.lt p h.own
  obtain ⟨W, hW, hs2, hb2, X1⟩ := one_box w 30 com0
  unfold com0 at hW
  dsimp only at hW
  have HGP : Hid (p < w.heap.size) := hpl
  have HSL : Hid (∀ k, S k → k < w.heap.size) := h.lt
  have HNP : Hid (w.heap.size ≠ p) := by show _ ≠ _; omega
  have I0 : Aside (InAt W p S rest bad) := h.below hb2
  have U0 : Aside (Upd (fun k => k = p) w W) := (Upd.below hb2 (S := fun _ => False)).mono (fun _ _ x => x.elim)
  have X0 : Aside (ComBox W w.heap.size 30 com0) := X1
  clear h X1 hb2 hs2 hpl
  go_enter Try.func26, Try.ntmps26
  go_upto_region 1 with (fail)
  rw [← hW]
  clear hW
  obtain ⟨g2, hg2⟩ : ∃ g, g = w.heap.size := ⟨_, rfl⟩
  rw [← hg2] at X0 HNP ⊢
  have HG2 : Hid (w.heap.size ≤ g2) := by show _ ≤ _; omega
  clear hg2
  have HC : Aside _ := in_u8p I0.out
  go_wp2_with fail
  refine Calls.mono HC.out ?_
  rintro e w1 ⟨v0, r1, b1, rfl, i9, u9, hb9, p9⟩
  have I1 : Aside (InAt w1 p S r1 b1) := i9
  have U1 : Aside (Upd (fun k => k = p) w w1) := U0.out.trans u9 (fun _ _ x => x)
  have X1 : Aside (ComBox w1 g2 30 com0) := X0.out.upd u9 HNP.out
  have P0 := Lib.hid p9
  have B0 := Lib.hid hb9
  clear HC i9 u9 p9 hb9 I0 U0 X0
  by_cases hk : 1 ≤ v0 ∧ v0 ≤ 8
  · rcases (show v0 = 1 ∨ v0 = 2 ∨ v0 = 3 ∨ v0 = 4 ∨ v0 = 5 ∨ v0 = 6 ∨ v0 = 7 ∨ v0 = 8 by omega) with rfl | rfl | rfl | rfl | rfl | rfl | rfl | rfl
    · clear hk
      have HC : Aside _ := in_u8p I1.out
      go_wp2_with fail
      refine Calls.mono HC.out ?_
      rintro e w2 ⟨v1, r2, b2, rfl, i9, u9, hb9, p9⟩
      have I2 : Aside (InAt w2 p S r2 b2) := i9
      have U2 : Aside (Upd (fun k => k = p) w w2) := U1.out.trans u9 (fun _ _ x => x)
      have X2 : Aside (ComBox w2 g2 30 com0) := X1.out.upd u9 HNP.out
      have P1 := Lib.hid p9
      have B1 := Lib.hid hb9
      clear HC i9 u9 p9 hb9 I1 U1 X1
      have HC : Aside _ := cm_units I2.out
      go_wp2_with fail
      refine Calls.mono HC.out ?_
      rintro e w3 ⟨gu, nu, vs, r3, b3, rfl, n9, i9, u9, hn9, hv9, p9⟩
      have I3 : Aside (InAt w3 p S r3 b3) := i9
      have U3 : Aside (Upd (fun k => k = p) w w3) := U2.out.trans u9 (fun _ _ x => x)
      have X3 : Aside (ComBox w3 g2 30 com0) := X2.out.upd u9 HNP.out
      have P2 := Lib.hid p9
      have BV : Hid ((∀ x ∈ vs, 0 ≤ x ∧ x < 256) ∧ nu < 256) := ⟨hv9, hn9⟩
      have NV : Aside (NewLi w3 w2.heap.size (some ⟨gu, 0, none⟩) nu nu vs) := n9
      have HV2 : Hid (g2 < w2.heap.size ∧ w.heap.size ≤ w2.heap.size ∧ p < w2.heap.size) := ⟨X2.out.lt, U2.out.size, Nat.lt_of_lt_of_le HGP.out U2.out.size⟩
      clear HC i9 u9 p9 n9 hn9 hv9 I2 U2 X2
      have HC : Aside _ := in_u8p I3.out
      go_wp2_with fail
      refine Calls.mono HC.out ?_
      rintro e w4 ⟨v3, r4, b4, rfl, i9, u9, hb9, p9⟩
      have I4 : Aside (InAt w4 p S r4 b4) := i9
      have U4 : Aside (Upd (fun k => k = p) w w4) := U3.out.trans u9 (fun _ _ x => x)
      have X4 : Aside (ComBox w4 g2 30 com0) := X3.out.upd u9 HNP.out
      have P3 := Lib.hid p9
      have B3 := Lib.hid hb9
      have NV : Aside (NewLi w4 w2.heap.size (some ⟨gu, 0, none⟩) nu nu vs) := NV.out.upd u9 (fun g hg _ e => by have := HV2.out; have e : g = p := e; omega)
      clear HC i9 u9 p9 hb9 I3 U3 X3
      have HC : Aside _ := in_u16p I4.out
      go_wp2_with fail
      refine Calls.mono HC.out ?_
      rintro e w5 ⟨v4, r5, b5, rfl, i9, u9, hb9, p9⟩
      have I5 : Aside (InAt w5 p S r5 b5) := i9
      have U5 : Aside (Upd (fun k => k = p) w w5) := U4.out.trans u9 (fun _ _ x => x)
      have X5 : Aside (ComBox w5 g2 30 com0) := X4.out.upd u9 HNP.out
      have P4 := Lib.hid p9
      have B4 := Lib.hid hb9
      have NV : Aside (NewLi w5 w2.heap.size (some ⟨gu, 0, none⟩) nu nu vs) := NV.out.upd u9 (fun g hg _ e => by have := HV2.out; have e : g = p := e; omega)
      clear HC i9 u9 p9 hb9 I4 U4 X4
      have HC : Aside _ := in_flagp I5.out
      go_wp2_with fail
      refine Calls.mono HC.out ?_
      rintro e w6 ⟨v5, r6, b6, rfl, i9, u9, -, p9⟩
      have I6 : Aside (InAt w6 p S r6 b6) := i9
      have U6 : Aside (Upd (fun k => k = p) w w6) := U5.out.trans u9 (fun _ _ x => x)
      have X6 : Aside (ComBox w6 g2 30 com0) := X5.out.upd u9 HNP.out
      have P5 := Lib.hid p9
      have NV : Aside (NewLi w6 w2.heap.size (some ⟨gu, 0, none⟩) nu nu vs) := NV.out.upd u9 (fun g hg _ e => by have := HV2.out; have e : g = p := e; omega)
      clear HC i9 u9 p9 I5 U5 X5
      have HP : Aside (ReadP rest bad ⟨1, v1, some ⟨gu, 0, none⟩, nu, nu, v3, v4, v5, 0, 0, 0, 0, 0, false⟩ vs r6 b6) := read_req _ _ P0.out P1.out P2.out P3.out P4.out P5.out B1.out BV.out.1 (by have := NV.out.len; have := BV.out.2; omega) B3.out B4.out
      have yf := X6.out.fz
      obtain ⟨y0, y1, y2, y3, y4, y5, y6, y7, y8, y9, y10, y11⟩ := X6.out.cells
      have HF : Aside _ := set12_at X6.out ⟨1, v1, some ⟨gu, 0, none⟩, nu, nu, v3, v4, v5, 0, 0, 0, 0, 0, false⟩
      have HFU : Aside _ := set12_upd w6 g2 ⟨1, v1, some ⟨gu, 0, none⟩, nu, nu, v3, v4, v5, 0, 0, 0, 0, 0, false⟩
      unfold set12 at HF HFU
      dsimp only at HF HFU
      clear X6
      go_wp2
      refine bodyPost_ret (results_cell_row rfl _ _ g2 30 #[.int .i64 1, .int .i64 v1, .slice (some ⟨gu, 0, none⟩) nu nu, .int .i64 v3, .int .i64 v4, .bool v5, .int .i64 0, .int .i64 0, .int .i64 0, .int .i64 0, .int .i64 0, .bool false] (0, 0) _ rfl HF.out.at' Try.underlying30 rfl info_com) rfl ?_
      exact ⟨⟨1, v1, some ⟨gu, 0, none⟩, nu, nu, v3, v4, v5, 0, 0, 0, 0, 0, false⟩, vs, r6, b6, rfl, (NV.out.upd HFU.out (fun g hg _ e => by have := HV2.out; have e : g = g2 := e; omega)).lower HV2.out.2.1, I6.out.upd HFU.out (fun k hk e => by have := HSL.out k hk; have := HG2.out; have e : k = g2 := e; omega), (U6.out.trans (HFU.out) (fun k hk e => by have := HG2.out; have e : k = g2 := e; have hk : k < w.heap.size := hk; exact absurd hk (by omega))), BV.out.2, ⟨(by unfold I64; dsimp only; omega), i64s B1.out (by decide), fun x hx => i64s (BV.out.1 x hx) (by decide), i64s B3.out (by decide), i64s B4.out (by decide), i640, i640, i640, i640, i640⟩, HP.out⟩
    · clear hk
      have HC : Aside _ := in_u16p I1.out
      go_wp2_with fail
      refine Calls.mono HC.out ?_
      rintro e w2 ⟨v1, r2, b2, rfl, i9, u9, hb9, p9⟩
      have I2 : Aside (InAt w2 p S r2 b2) := i9
      have U2 : Aside (Upd (fun k => k = p) w w2) := U1.out.trans u9 (fun _ _ x => x)
      have X2 : Aside (ComBox w2 g2 30 com0) := X1.out.upd u9 HNP.out
      have P1 := Lib.hid p9
      have B1 := Lib.hid hb9
      clear HC i9 u9 p9 hb9 I1 U1 X1
      have HP : Aside (ReadP rest bad ⟨2, 0, none, 0, 0, 0, 0, false, v1, 0, 0, 0, 0, false⟩ [] r2 b2) := read_rma (by omega) P0.out P1.out B1.out.1 B1.out.2
      have yf := X2.out.fz
      obtain ⟨y0, y1, y2, y3, y4, y5, y6, y7, y8, y9, y10, y11⟩ := X2.out.cells
      have HF : Aside _ := set12_at X2.out ⟨2, 0, none, 0, 0, 0, 0, false, v1, 0, 0, 0, 0, false⟩
      have HFU : Aside _ := set12_upd w2 g2 ⟨2, 0, none, 0, 0, 0, 0, false, v1, 0, 0, 0, 0, false⟩
      unfold set12 at HF HFU
      dsimp only at HF HFU
      clear X2
      go_wp2
      refine bodyPost_ret (results_cell_row rfl _ _ g2 30 #[.int .i64 2, .int .i64 0, .slice none 0 0, .int .i64 0, .int .i64 0, .bool false, .int .i64 v1, .int .i64 0, .int .i64 0, .int .i64 0, .int .i64 0, .bool false] (0, 0) _ rfl HF.out.at' Try.underlying30 rfl info_com) rfl ?_
      exact ⟨⟨2, 0, none, 0, 0, 0, 0, false, v1, 0, 0, 0, 0, false⟩, [], r2, b2, rfl, newLi0 _ _, I2.out.upd HFU.out (fun k hk e => by have := HSL.out k hk; have := HG2.out; have e : k = g2 := e; omega), (U2.out.trans (HFU.out) (fun k hk e => by have := HG2.out; have e : k = g2 := e; have hk : k < w.heap.size := hk; exact absurd hk (by omega))), (by show (0 : Nat) < 256; decide), ⟨(by unfold I64; dsimp only; omega), i640, fun x hx => by simp at hx, i640, i640, i64s B1.out (by decide), i640, i640, i640, i640⟩, HP.out⟩
    · clear hk
      have HC : Aside _ := in_u16p I1.out
      go_wp2_with fail
      refine Calls.mono HC.out ?_
      rintro e w2 ⟨v1, r2, b2, rfl, i9, u9, hb9, p9⟩
      have I2 : Aside (InAt w2 p S r2 b2) := i9
      have U2 : Aside (Upd (fun k => k = p) w w2) := U1.out.trans u9 (fun _ _ x => x)
      have X2 : Aside (ComBox w2 g2 30 com0) := X1.out.upd u9 HNP.out
      have P1 := Lib.hid p9
      have B1 := Lib.hid hb9
      clear HC i9 u9 p9 hb9 I1 U1 X1
      have HP : Aside (ReadP rest bad ⟨3, 0, none, 0, 0, 0, 0, false, v1, 0, 0, 0, 0, false⟩ [] r2 b2) := read_rma (by omega) P0.out P1.out B1.out.1 B1.out.2
      have yf := X2.out.fz
      obtain ⟨y0, y1, y2, y3, y4, y5, y6, y7, y8, y9, y10, y11⟩ := X2.out.cells
      have HF : Aside _ := set12_at X2.out ⟨3, 0, none, 0, 0, 0, 0, false, v1, 0, 0, 0, 0, false⟩
      have HFU : Aside _ := set12_upd w2 g2 ⟨3, 0, none, 0, 0, 0, 0, false, v1, 0, 0, 0, 0, false⟩
      unfold set12 at HF HFU
      dsimp only at HF HFU
      clear X2
      go_wp2
      refine bodyPost_ret (results_cell_row rfl _ _ g2 30 #[.int .i64 3, .int .i64 0, .slice none 0 0, .int .i64 0, .int .i64 0, .bool false, .int .i64 v1, .int .i64 0, .int .i64 0, .int .i64 0, .int .i64 0, .bool false] (0, 0) _ rfl HF.out.at' Try.underlying30 rfl info_com) rfl ?_
      exact ⟨⟨3, 0, none, 0, 0, 0, 0, false, v1, 0, 0, 0, 0, false⟩, [], r2, b2, rfl, newLi0 _ _, I2.out.upd HFU.out (fun k hk e => by have := HSL.out k hk; have := HG2.out; have e : k = g2 := e; omega), (U2.out.trans (HFU.out) (fun k hk e => by have := HG2.out; have e : k = g2 := e; have hk : k < w.heap.size := hk; exact absurd hk (by omega))), (by show (0 : Nat) < 256; decide), ⟨(by unfold I64; dsimp only; omega), i640, fun x hx => by simp at hx, i640, i640, i64s B1.out (by decide), i640, i640, i640, i640⟩, HP.out⟩
    · clear hk
      have HC : Aside _ := in_u16p I1.out
      go_wp2_with fail
      refine Calls.mono HC.out ?_
      rintro e w2 ⟨v1, r2, b2, rfl, i9, u9, hb9, p9⟩
      have I2 : Aside (InAt w2 p S r2 b2) := i9
      have U2 : Aside (Upd (fun k => k = p) w w2) := U1.out.trans u9 (fun _ _ x => x)
      have X2 : Aside (ComBox w2 g2 30 com0) := X1.out.upd u9 HNP.out
      have P1 := Lib.hid p9
      have B1 := Lib.hid hb9
      clear HC i9 u9 p9 hb9 I1 U1 X1
      have HP : Aside (ReadP rest bad ⟨4, 0, none, 0, 0, 0, 0, false, v1, 0, 0, 0, 0, false⟩ [] r2 b2) := read_rma (by omega) P0.out P1.out B1.out.1 B1.out.2
      have yf := X2.out.fz
      obtain ⟨y0, y1, y2, y3, y4, y5, y6, y7, y8, y9, y10, y11⟩ := X2.out.cells
      have HF : Aside _ := set12_at X2.out ⟨4, 0, none, 0, 0, 0, 0, false, v1, 0, 0, 0, 0, false⟩
      have HFU : Aside _ := set12_upd w2 g2 ⟨4, 0, none, 0, 0, 0, 0, false, v1, 0, 0, 0, 0, false⟩
      unfold set12 at HF HFU
      dsimp only at HF HFU
      clear X2
      go_wp2
      refine bodyPost_ret (results_cell_row rfl _ _ g2 30 #[.int .i64 4, .int .i64 0, .slice none 0 0, .int .i64 0, .int .i64 0, .bool false, .int .i64 v1, .int .i64 0, .int .i64 0, .int .i64 0, .int .i64 0, .bool false] (0, 0) _ rfl HF.out.at' Try.underlying30 rfl info_com) rfl ?_
      exact ⟨⟨4, 0, none, 0, 0, 0, 0, false, v1, 0, 0, 0, 0, false⟩, [], r2, b2, rfl, newLi0 _ _, I2.out.upd HFU.out (fun k hk e => by have := HSL.out k hk; have := HG2.out; have e : k = g2 := e; omega), (U2.out.trans (HFU.out) (fun k hk e => by have := HG2.out; have e : k = g2 := e; have hk : k < w.heap.size := hk; exact absurd hk (by omega))), (by show (0 : Nat) < 256; decide), ⟨(by unfold I64; dsimp only; omega), i640, fun x hx => by simp at hx, i640, i640, i64s B1.out (by decide), i640, i640, i640, i640⟩, HP.out⟩
    · clear hk
      have HC : Aside _ := in_u16p I1.out
      go_wp2_with fail
      refine Calls.mono HC.out ?_
      rintro e w2 ⟨v1, r2, b2, rfl, i9, u9, hb9, p9⟩
      have I2 : Aside (InAt w2 p S r2 b2) := i9
      have U2 : Aside (Upd (fun k => k = p) w w2) := U1.out.trans u9 (fun _ _ x => x)
      have X2 : Aside (ComBox w2 g2 30 com0) := X1.out.upd u9 HNP.out
      have P1 := Lib.hid p9
      have B1 := Lib.hid hb9
      clear HC i9 u9 p9 hb9 I1 U1 X1
      have HP : Aside (ReadP rest bad ⟨5, 0, none, 0, 0, 0, 0, false, v1, 0, 0, 0, 0, false⟩ [] r2 b2) := read_rma (by omega) P0.out P1.out B1.out.1 B1.out.2
      have yf := X2.out.fz
      obtain ⟨y0, y1, y2, y3, y4, y5, y6, y7, y8, y9, y10, y11⟩ := X2.out.cells
      have HF : Aside _ := set12_at X2.out ⟨5, 0, none, 0, 0, 0, 0, false, v1, 0, 0, 0, 0, false⟩
      have HFU : Aside _ := set12_upd w2 g2 ⟨5, 0, none, 0, 0, 0, 0, false, v1, 0, 0, 0, 0, false⟩
      unfold set12 at HF HFU
      dsimp only at HF HFU
      clear X2
      go_wp2
      refine bodyPost_ret (results_cell_row rfl _ _ g2 30 #[.int .i64 5, .int .i64 0, .slice none 0 0, .int .i64 0, .int .i64 0, .bool false, .int .i64 v1, .int .i64 0, .int .i64 0, .int .i64 0, .int .i64 0, .bool false] (0, 0) _ rfl HF.out.at' Try.underlying30 rfl info_com) rfl ?_
      exact ⟨⟨5, 0, none, 0, 0, 0, 0, false, v1, 0, 0, 0, 0, false⟩, [], r2, b2, rfl, newLi0 _ _, I2.out.upd HFU.out (fun k hk e => by have := HSL.out k hk; have := HG2.out; have e : k = g2 := e; omega), (U2.out.trans (HFU.out) (fun k hk e => by have := HG2.out; have e : k = g2 := e; have hk : k < w.heap.size := hk; exact absurd hk (by omega))), (by show (0 : Nat) < 256; decide), ⟨(by unfold I64; dsimp only; omega), i640, fun x hx => by simp at hx, i640, i640, i64s B1.out (by decide), i640, i640, i640, i640⟩, HP.out⟩
    · clear hk
      have HC : Aside _ := in_u16p I1.out
      go_wp2_with fail
      refine Calls.mono HC.out ?_
      rintro e w2 ⟨v1, r2, b2, rfl, i9, u9, hb9, p9⟩
      have I2 : Aside (InAt w2 p S r2 b2) := i9
      have U2 : Aside (Upd (fun k => k = p) w w2) := U1.out.trans u9 (fun _ _ x => x)
      have X2 : Aside (ComBox w2 g2 30 com0) := X1.out.upd u9 HNP.out
      have P1 := Lib.hid p9
      have B1 := Lib.hid hb9
      clear HC i9 u9 p9 hb9 I1 U1 X1
      have HC : Aside _ := in_u8p I2.out
      go_wp2_with fail
      refine Calls.mono HC.out ?_
      rintro e w3 ⟨v2, r3, b3, rfl, i9, u9, hb9, p9⟩
      have I3 : Aside (InAt w3 p S r3 b3) := i9
      have U3 : Aside (Upd (fun k => k = p) w w3) := U2.out.trans u9 (fun _ _ x => x)
      have X3 : Aside (ComBox w3 g2 30 com0) := X2.out.upd u9 HNP.out
      have P2 := Lib.hid p9
      have B2 := Lib.hid hb9
      clear HC i9 u9 p9 hb9 I2 U2 X2
      have HC : Aside _ := in_u8p I3.out
      go_wp2_with fail
      refine Calls.mono HC.out ?_
      rintro e w4 ⟨v3, r4, b4, rfl, i9, u9, hb9, p9⟩
      have I4 : Aside (InAt w4 p S r4 b4) := i9
      have U4 : Aside (Upd (fun k => k = p) w w4) := U3.out.trans u9 (fun _ _ x => x)
      have X4 : Aside (ComBox w4 g2 30 com0) := X3.out.upd u9 HNP.out
      have P3 := Lib.hid p9
      have B3 := Lib.hid hb9
      clear HC i9 u9 p9 hb9 I3 U3 X3
      have HP : Aside (ReadP rest bad ⟨6, 0, none, 0, 0, 0, 0, false, v1, v2, v3, 0, 0, false⟩ [] r4 b4) := read_grade P0.out P1.out P2.out P3.out B1.out B2.out B3.out
      have yf := X4.out.fz
      obtain ⟨y0, y1, y2, y3, y4, y5, y6, y7, y8, y9, y10, y11⟩ := X4.out.cells
      have HF : Aside _ := set12_at X4.out ⟨6, 0, none, 0, 0, 0, 0, false, v1, v2, v3, 0, 0, false⟩
      have HFU : Aside _ := set12_upd w4 g2 ⟨6, 0, none, 0, 0, 0, 0, false, v1, v2, v3, 0, 0, false⟩
      unfold set12 at HF HFU
      dsimp only at HF HFU
      clear X4
      go_wp2
      refine bodyPost_ret (results_cell_row rfl _ _ g2 30 #[.int .i64 6, .int .i64 0, .slice none 0 0, .int .i64 0, .int .i64 0, .bool false, .int .i64 v1, .int .i64 v2, .int .i64 v3, .int .i64 0, .int .i64 0, .bool false] (0, 0) _ rfl HF.out.at' Try.underlying30 rfl info_com) rfl ?_
      exact ⟨⟨6, 0, none, 0, 0, 0, 0, false, v1, v2, v3, 0, 0, false⟩, [], r4, b4, rfl, newLi0 _ _, I4.out.upd HFU.out (fun k hk e => by have := HSL.out k hk; have := HG2.out; have e : k = g2 := e; omega), (U4.out.trans (HFU.out) (fun k hk e => by have := HG2.out; have e : k = g2 := e; have hk : k < w.heap.size := hk; exact absurd hk (by omega))), (by show (0 : Nat) < 256; decide), ⟨(by unfold I64; dsimp only; omega), i640, fun x hx => by simp at hx, i640, i640, i64s B1.out (by decide), i64s B2.out (by decide), i64s B3.out (by decide), i640, i640⟩, HP.out⟩
    · clear hk
      have HC : Aside _ := in_u16p I1.out
      go_wp2_with fail
      refine Calls.mono HC.out ?_
      rintro e w2 ⟨v1, r2, b2, rfl, i9, u9, hb9, p9⟩
      have I2 : Aside (InAt w2 p S r2 b2) := i9
      have U2 : Aside (Upd (fun k => k = p) w w2) := U1.out.trans u9 (fun _ _ x => x)
      have X2 : Aside (ComBox w2 g2 30 com0) := X1.out.upd u9 HNP.out
      have P1 := Lib.hid p9
      have B1 := Lib.hid hb9
      clear HC i9 u9 p9 hb9 I1 U1 X1
      have HP : Aside (ReadP rest bad ⟨7, 0, none, 0, 0, 0, 0, false, 0, 0, 0, v1, 0, false⟩ [] r2 b2) := read_tick P0.out P1.out B1.out
      have yf := X2.out.fz
      obtain ⟨y0, y1, y2, y3, y4, y5, y6, y7, y8, y9, y10, y11⟩ := X2.out.cells
      have HF : Aside _ := set12_at X2.out ⟨7, 0, none, 0, 0, 0, 0, false, 0, 0, 0, v1, 0, false⟩
      have HFU : Aside _ := set12_upd w2 g2 ⟨7, 0, none, 0, 0, 0, 0, false, 0, 0, 0, v1, 0, false⟩
      unfold set12 at HF HFU
      dsimp only at HF HFU
      clear X2
      go_wp2
      refine bodyPost_ret (results_cell_row rfl _ _ g2 30 #[.int .i64 7, .int .i64 0, .slice none 0 0, .int .i64 0, .int .i64 0, .bool false, .int .i64 0, .int .i64 0, .int .i64 0, .int .i64 v1, .int .i64 0, .bool false] (0, 0) _ rfl HF.out.at' Try.underlying30 rfl info_com) rfl ?_
      exact ⟨⟨7, 0, none, 0, 0, 0, 0, false, 0, 0, 0, v1, 0, false⟩, [], r2, b2, rfl, newLi0 _ _, I2.out.upd HFU.out (fun k hk e => by have := HSL.out k hk; have := HG2.out; have e : k = g2 := e; omega), (U2.out.trans (HFU.out) (fun k hk e => by have := HG2.out; have e : k = g2 := e; have hk : k < w.heap.size := hk; exact absurd hk (by omega))), (by show (0 : Nat) < 256; decide), ⟨(by unfold I64; dsimp only; omega), i640, fun x hx => by simp at hx, i640, i640, i640, i640, i640, i64s B1.out (by decide), i640⟩, HP.out⟩
    · clear hk
      have HC : Aside _ := in_u32p I1.out
      go_wp2_with fail
      refine Calls.mono HC.out ?_
      rintro e w2 ⟨v1, r2, b2, rfl, i9, u9, hb9, p9⟩
      have I2 : Aside (InAt w2 p S r2 b2) := i9
      have U2 : Aside (Upd (fun k => k = p) w w2) := U1.out.trans u9 (fun _ _ x => x)
      have X2 : Aside (ComBox w2 g2 30 com0) := X1.out.upd u9 HNP.out
      have P1 := Lib.hid p9
      have B1 := Lib.hid hb9
      clear HC i9 u9 p9 hb9 I1 U1 X1
      have HC : Aside _ := in_flagp I2.out
      go_wp2_with fail
      refine Calls.mono HC.out ?_
      rintro e w3 ⟨v2, r3, b3, rfl, i9, u9, -, p9⟩
      have I3 : Aside (InAt w3 p S r3 b3) := i9
      have U3 : Aside (Upd (fun k => k = p) w w3) := U2.out.trans u9 (fun _ _ x => x)
      have X3 : Aside (ComBox w3 g2 30 com0) := X2.out.upd u9 HNP.out
      have P2 := Lib.hid p9
      clear HC i9 u9 p9 I2 U2 X2
      have HP : Aside (ReadP rest bad ⟨8, 0, none, 0, 0, 0, 0, false, 0, 0, 0, 0, v1, v2⟩ [] r3 b3) := read_reply P0.out P1.out P2.out B1.out
      have yf := X3.out.fz
      obtain ⟨y0, y1, y2, y3, y4, y5, y6, y7, y8, y9, y10, y11⟩ := X3.out.cells
      have HF : Aside _ := set12_at X3.out ⟨8, 0, none, 0, 0, 0, 0, false, 0, 0, 0, 0, v1, v2⟩
      have HFU : Aside _ := set12_upd w3 g2 ⟨8, 0, none, 0, 0, 0, 0, false, 0, 0, 0, 0, v1, v2⟩
      unfold set12 at HF HFU
      dsimp only at HF HFU
      clear X3
      go_wp2
      refine bodyPost_ret (results_cell_row rfl _ _ g2 30 #[.int .i64 8, .int .i64 0, .slice none 0 0, .int .i64 0, .int .i64 0, .bool false, .int .i64 0, .int .i64 0, .int .i64 0, .int .i64 0, .int .i64 v1, .bool v2] (0, 0) _ rfl HF.out.at' Try.underlying30 rfl info_com) rfl ?_
      exact ⟨⟨8, 0, none, 0, 0, 0, 0, false, 0, 0, 0, 0, v1, v2⟩, [], r3, b3, rfl, newLi0 _ _, I3.out.upd HFU.out (fun k hk e => by have := HSL.out k hk; have := HG2.out; have e : k = g2 := e; omega), (U3.out.trans (HFU.out) (fun k hk e => by have := HG2.out; have e : k = g2 := e; have hk : k < w.heap.size := hk; exact absurd hk (by omega))), (by show (0 : Nat) < 256; decide), ⟨(by unfold I64; dsimp only; omega), i640, fun x hx => by simp at hx, i640, i640, i640, i640, i640, i640, i64s B1.out (by decide)⟩, HP.out⟩
  · have HK := Lib.hid hk
    have e1 : (v0 == 1) = false := by simp; omega
    have e2 : (v0 == 2) = false := by simp; omega
    have e3 : (v0 == 3) = false := by simp; omega
    have e4 : (v0 == 4) = false := by simp; omega
    have e5 : (v0 == 5) = false := by simp; omega
    have e6 : (v0 == 6) = false := by simp; omega
    have e7 : (v0 == 7) = false := by simp; omega
    have e8 : (v0 == 8) = false := by simp; omega
    clear hk
    have HP : Aside (ReadP rest bad com0 [] r1 b1) := read_none P0.out HK.out
    have HP : Aside (ReadP rest bad com0 [] r1 b1) := read_none P0.out HK.out
    have yf := X1.out.fz
    obtain ⟨y0, y1, y2, y3, y4, y5, y6, y7, y8, y9, y10, y11⟩ := X1.out.cells
    have HF : Aside _ := set12_at X1.out ⟨0, 0, none, 0, 0, 0, 0, false, 0, 0, 0, 0, 0, false⟩
    have HFU : Aside _ := set12_upd w1 g2 ⟨0, 0, none, 0, 0, 0, 0, false, 0, 0, 0, 0, 0, false⟩
    unfold set12 at HF HFU
    dsimp only at HF HFU
    clear X1
    go_wp2
    refine bodyPost_ret (results_cell_row rfl _ _ g2 30 #[.int .i64 0, .int .i64 0, .slice none 0 0, .int .i64 0, .int .i64 0, .bool false, .int .i64 0, .int .i64 0, .int .i64 0, .int .i64 0, .int .i64 0, .bool false] (0, 0) _ rfl HF.out.at' Try.underlying30 rfl info_com) rfl ?_
    exact ⟨⟨0, 0, none, 0, 0, 0, 0, false, 0, 0, 0, 0, 0, false⟩, [], r1, b1, rfl, newLi0 _ _, I1.out.upd HFU.out (fun k hk e => by have := HSL.out k hk; have := HG2.out; have e : k = g2 := e; omega), (U1.out.trans (HFU.out) (fun k hk e => by have := HG2.out; have e : k = g2 := e; have hk : k < w.heap.size := hk; exact absurd hk (by omega))), (by show (0 : Nat) < 256; decide), ⟨i640, i640, fun x hx => by simp at hx, i640, i640, i640, i640, i640, i640, i640⟩, HP.out⟩
end Go.Proofs.Ytmaoimjfkncnpaa
