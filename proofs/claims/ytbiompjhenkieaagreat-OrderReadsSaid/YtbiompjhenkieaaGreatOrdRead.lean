/-
  Package order: read. Conditions: those of each theorem.
-/
import Derived.Test.YtbiompjhenkieaaGreatOrdInO
namespace Go.Proofs.YtbiompjhenkieaaGreat
open Go.RowKit
set_option maxRecDepth 100000

theorem pols_upd {w w' : World} {a : Option Addr} {ps : List Pol} {T : Nat → Prop} (h : PolsAt w a ps) (hu : Upd T w w') (hn : ∀ x, a = some x → ¬ T x.block) : PolsAt w' a ps := by
  rcases h with h | ⟨b, off, rfl, hb, hc⟩
  · exact .inl h
  · have hb' := hn _ rfl
    exact .inr ⟨b, off, rfl, Nat.lt_of_lt_of_le hb hu.size, fun i hi => ⟨Nat.lt_of_lt_of_le (hc i hi).lt hu.size, fun j v hj => (hu.cell (p := ⟨b, off + i * 16 + j, none⟩) hb hb').trans ((hc i hi).cells j v hj)⟩⟩
theorem bytesOf_told {xs r : List UInt8} (bad : Bool) (h : xs.length < 65536) : (bytesOf (le xs.length 2 ++ (xs ++ r)) bad).1 = xs ∧ (bytesOf (le xs.length 2 ++ (xs ++ r)) bad).2.1 = r := by
  have e := took_le (v := (xs.length : Int)) (n := 2) (xs ++ r) bad
  have e2 : numLe (le (xs.length : Int) 2) = xs.length := by rw [numLe_le]; exact Nat.mod_eq_of_lt (by omega)
  have hc : canTake (xs ++ r) (xs.length : Nat) = true := by simp [canTake]; omega
  unfold bytesOf
  rw [show ((2 : Nat) : Int) = (2 : Int) from rfl] at e
  rw [e]
  simp only [e2]
  unfold took
  rw [if_pos hc]
  simp
theorem fit_small {p : Pol} (h : RightP p) : PolFit p :=
  ⟨by have := h.win; unfold I64; omega, fun k hk => by have := h.fee k hk; unfold I64; omega, fun k hk => by have := h.share k hk; unfold I64; omega, fun k hk => by have := h.dest k hk; unfold I64; omega⟩
theorem info_cfgr : (Tryz.prog.info? 26).map (·.size) = some 3 := by kernel_rfl

/-- A config that was read is like another one. -/
structure CfgLike (D C : Cfg) : Prop where
  o : D.orders = C.orders
  s : D.sups = C.sups
  t : D.table.map Pol.arr = C.table.map Pol.arr
theorem CfgLike.right {D C : Cfg} (h : CfgLike D C) : rightC D = rightC C := by
  have hl : D.table.length = C.table.length := by simpa using congrArg List.length h.t
  unfold rightC
  rw [h.o, h.s, hl, rightT_congr h.t]
theorem CfgLike.bytes {D C : Cfg} (h : CfgLike D C) : cfgBytes D = cfgBytes C := by
  unfold cfgBytes
  rw [h.o, h.s, tableBytes_congr h.t]

def ConfigR (w : World) (p : Nat) (rest : List UInt8) (e : Ending) (w' : World) : Prop :=
  ∃ (aO : Option Addr) (no : Nat) (aS : Option Addr) (ns : Nat) (aT : Option Addr) (nt ct : Nat) (D : Cfg), e = .returned (.agg (cfgCells aO no no aS ns ns aT nt ct)) ∧ (∀ W, Upd (fun k => k < w.heap.size) w' W → CfgIs W aO no aS ns aT nt D) ∧ CfgFit D ∧ CfgCaps no no ns ns nt ct ∧ Upd (fun k => k = p) w w' ∧ ∀ C, rightC C = true → rest = cfgBytes C → CfgLike D C

set_option maxHeartbeats 4000000 in
theorem ord_read {w : World} {p : Nat} {S : Nat → Prop} {rest : List UInt8} {bad : Bool} (h : InAt w p S rest bad) (hb : rest.length ≤ 140737488355328) :
    Calls Tryz.prog 19 #[.pointer (some ⟨p, 0, none⟩)] w (ConfigR w p rest) := by
  have hown := h.lt p h.own
  have hsep := Lib.hid h.lt
  have Z0 : Aside ((w.alloc (.cells #[.slice none 0 0, .slice none 0 0, .slice none 0 0] 26)).heap[w.heap.size]? = some (.cells #[.slice none 0 0, .slice none 0 0, .slice none 0 0] 26 (0, 0))) := heap_alloc_new _ _
  have I0 : Aside (InAt (w.alloc (.cells #[.slice none 0 0, .slice none 0 0, .slice none 0 0] 26)) p S rest bad) := h.below (upd_box _)
  have U0 : Aside (Upd (fun k => k = p) w (w.alloc (.cells #[.slice none 0 0, .slice none 0 0, .slice none 0 0] 26))) := (Upd.refl _ _).alloc _
  have hgp : Hid (w.heap.size ≠ p) := by show _ ≠ _; omega
  have L0 : Hid (w.heap.size + 1 ≤ (w.alloc (.cells #[.slice none 0 0, .slice none 0 0, .slice none 0 0] 26)).heap.size) := by show _ ≤ _; simp
  clear h
  go_enter Tryz.func19, Tryz.ntmps19
  go_upto_region 1 with (fail)
  show Code.wp _ _ _ _ (w.alloc (.cells #[.slice none 0 0, .slice none 0 0, .slice none 0 0] 26))
  generalize w.alloc (.cells #[.slice none 0 0, .slice none 0 0, .slice none 0 0] 26) = v0 at *
  have HC : Aside _ := in_bytes I0.out hb
  go_wp2_with fail
  refine Calls.mono HC.out ?_
  rintro e v1 ⟨⟨a1, m1, c1, rfl, hm1, hx1, hc1, hc2, hnc, -⟩, i2, u2⟩
  have hm9 : m1 ≤ 140737488355328 := by
    have h1 := took_len (took rest bad 2).2.1 (took rest bad 2).2.2 (numLe (took rest bad 2).1 : Nat)
    have h2 := num_le_pow (took_len rest bad 2)
    have h3 : (bytesOf rest bad).1.length ≤ ((numLe (took rest bad 2).1 : Nat) : Int).toNat := h1
    have h4 : (256 : Nat) ^ (2 : Int).toNat = 65536 := by decide
    omega
  have HB : Hid (∀ C, rightC C = true → rest = cfgBytes C → (bytesOf rest bad).1 = tableBytes C.table ∧ (bytesOf rest bad).2.1 = [u8of C.orders.length] ++ (ordsBytes C.orders ++ ([u8of C.sups.length] ++ supsBytes C.sups))) := fun C hC hr => by
    have hl := (rightT_facts (right_parts hC).1).1
    have hl2 : (tableBytes C.table).length < 65536 := by rw [tableBytes_length]; omega
    have e : rest = le (tableBytes C.table).length 2 ++ (tableBytes C.table ++ ([u8of C.orders.length] ++ (ordsBytes C.orders ++ ([u8of C.sups.length] ++ supsBytes C.sups)))) := by
      rw [hr, cfgBytes]
      simp only [List.append_assoc]
    rw [e]
    exact bytesOf_told bad hl2
  obtain ⟨xs, hxs⟩ : ∃ xs, xs = (bytesOf rest bad).1 := ⟨_, rfl⟩
  obtain ⟨rest1, hr1⟩ : ∃ r1, r1 = (bytesOf rest bad).2.1 := ⟨_, rfl⟩
  rw [← hxs] at hm1 hx1 HB
  rw [← hr1] at i2 HB
  have I1 : Aside _ := i2
  have U1 : Aside _ := U0.out.trans u2 (fun _ _ x => x)
  have Z1 : Aside _ := row_upd Z0.out u2 hgp.out
  have L1 : Hid (w.heap.size + 1 ≤ v1.heap.size) := Nat.le_trans L0.out u2.size
  have HT : Aside _ := tab_decode a1 xs m1 c1 v1 hm1 hx1 hnc hm9
  clear HC i2 u2 I0 U0 Z0 L0 hm1 hx1 hc1 hc2 hnc hm9 hxs hr1
  go_wp2_with fail
  refine Calls.mono HT.out ?_
  rintro e v2 ⟨⟨aT, nt, ct, ps, k, rfl, hpl, hpa, hk, hct1, hct2, hnew⟩, b2⟩
  have hpl1 : p < v1.heap.size := by have := L1.out; omega
  have HPA : Aside (PolsAt v2 aT ps) := hpa
  have HPB : Hid (∀ x, aT = some x → ¬ x.block < v1.heap.size) := fun x hx => by have := hnew x hx; omega
  have HLO : Hid (w.heap.size < v1.heap.size ∧ v1.heap.size ≤ v2.heap.size) := ⟨by have := L1.out; omega, b2.size⟩
  have HPO : Hid (p < v1.heap.size) := hpl1
  have HPL := Lib.hid hpl
  have HCT : Hid (nt ≤ ct ∧ ct ≤ maxLen) := ⟨hct1, hct2⟩
  have HPF : Hid (∀ q ∈ ps, PolFit q) := by
    rcases hk with ⟨-, h1, -⟩ | ⟨-, h1, -⟩
    · exact fun q hq => fit_small ((rightT_facts h1).2 q hq)
    · intro q hq
      rw [List.length_eq_zero_iff.1 (hpl.trans h1)] at hq
      simp at hq
  have HPE : Hid (∀ C, rightC C = true → rest = cfgBytes C → ps.map Pol.arr = C.table.map Pol.arr) := fun C hC hr => by
    have e := (HB.out C hC hr).1
    have hrt := (right_parts hC).1
    rcases hk with ⟨-, h1, h2⟩ | ⟨-, -, h2⟩
    · exact (table_inj h1 hrt (by rw [h2, e])).2
    · exact absurd e.symm (h2 _ hrt)
  have I2 : Aside _ := I1.out.below b2
  have U2 : Aside (Upd (fun k => k = p) w v2) := U1.out.trans (below_upd (fun _ => False) b2) (fun _ _ x => x.elim)
  have Z2 : Aside _ := (b2.block w.heap.size (by have := L1.out; omega)).trans Z1.out
  have L2 : Hid (w.heap.size + 1 ≤ v2.heap.size) := Nat.le_trans L1.out b2.size
  clear HT hpl hpa hk hct1 hct2 hnew b2 I1 U1 Z1 L1 hpl1
  have HC : Aside _ := ord_listOrder I2.out
  go_wp2_with fail
  refine Calls.mono HC.out ?_
  rintro e v3 ⟨gO, no, os, rest3, bad3, rfl, hno, hol, hoa, hof, i2, u2, t2⟩
  have HPA3 : Aside (PolsAt v3 aT ps) := pols_upd HPA.out u2 (fun x hx e => HPB.out x hx (by have := HPO.out; omega))
  have HL3 : Hid (v2.heap.size ≤ v3.heap.size) := u2.size
  have HOA : Aside (∀ W, Upd (fun k => k < v2.heap.size) v3 W → OrdsAt W (some ⟨gO, 0, none⟩) os) := hoa
  have HOL := Lib.hid hol
  have HOF : Hid (∀ x ∈ os, OrdFit x) := hof
  have HOT : Hid (∀ (xs0 : List Ord) r, (∀ x ∈ xs0, OrdSmall x) → xs0.length < 256 → rest1 = [u8of xs0.length] ++ (ordsBytes xs0 ++ r) → os = xs0 ∧ rest3 = r) := t2
  have I3 : Aside _ := i2
  have U3 : Aside _ := U2.out.trans u2 (fun _ _ x => x)
  have Z3 : Aside _ := row_upd Z2.out u2 hgp.out
  clear HC hoa hol hof i2 u2 t2 I2 U2 Z2 L2 HPA
  have HC : Aside _ := ord_listSupply I3.out
  go_wp2_with fail
  refine Calls.mono HC.out ?_
  rintro e v4 ⟨gS, ns, ss, rest4, bad4, rfl, hns, hsl, hg1, hg2, hsa, hsf, i2, u2, t2⟩
  have HPA4 : Aside (PolsAt v4 aT ps) := pols_upd HPA3.out u2 (fun x hx e => HPB.out x hx (by have := HPO.out; omega))
  have u34 : Upd (fun k => k < v2.heap.size) v3 v4 := u2.mono (fun k _ e => by have := HPO.out; have := HLO.out.2; omega)
  have HOA4 : Aside (∀ W, Upd (fun k => k < v2.heap.size) v4 W → OrdsAt W (some ⟨gO, 0, none⟩) os) := fun W hW => HOA.out W (u34.trans hW (fun _ _ x => x))
  have HSA4 : Aside (∀ W, Upd (fun k => k < v2.heap.size) v4 W → SupsAt W (some ⟨gS, 0, none⟩) ss) := fun W hW => .inr ⟨gS, 0, rfl, Nat.lt_of_lt_of_le hg2 hW.size, fun i hi => by rw [Nat.zero_add]; exact (hsa i hi).upd hW (fun e => by have := HL3.out; omega)⟩
  have HSL := Lib.hid hsl
  have HSF : Hid (∀ x ∈ ss, SupFit x) := hsf
  have HST : Hid (∀ (xs0 : List Sup) r, (∀ x ∈ xs0, SupSmall x) → xs0.length < 256 → rest3 = [u8of xs0.length] ++ (supsBytes xs0 ++ r) → ss = xs0 ∧ rest4 = r) := t2
  have U4 : Aside _ := U3.out.trans u2 (fun _ _ x => x)
  have Z4 : Aside _ := row_upd Z3.out u2 hgp.out
  clear HC hsl hg1 hg2 hsa hsf i2 u2 t2 I3 U3 Z3 HPA3 HOA
  have HLK : Hid (∀ C, rightC C = true → rest = cfgBytes C → CfgLike ⟨os, ss, ps⟩ C) := fun C hC hr => by
    obtain ⟨h1, h2, h3, h4, h5⟩ := right_parts hC
    obtain ⟨-, e2⟩ := HB.out C hC hr
    obtain ⟨e3, e4⟩ := HOT.out C.orders _ h4 (by omega) e2
    obtain ⟨e5, -⟩ := HST.out C.sups [] h5 (by omega) (by rw [List.append_nil]; exact e4)
    exact ⟨e3, e5, HPE.out C hC hr⟩
  have HCI : Aside (∀ W, Upd (fun k => k ≤ w.heap.size) v4 W → CfgIs W (some ⟨gO, 0, none⟩) no (some ⟨gS, 0, none⟩) ns aT nt ⟨os, ss, ps⟩) := fun W hW =>
    CfgIs.mk HOL.out HSL.out HPL.out (HOA4.out W (hW.mono (fun k _ e => by have := HLO.out; omega))) (HSA4.out W (hW.mono (fun k _ e => by have := HLO.out; omega))) (pols_upd HPA4.out hW (fun x hx e => HPB.out x hx (by have := HLO.out; omega))) (by unfold maxLen; omega) (by unfold maxLen; omega) (Nat.le_trans HCT.out.1 HCT.out.2)
  clear HB HOT HST HPE HOA4 HSA4 HPA4
  obtain ⟨g2, hg2⟩ : ∃ g2, g2 = w.heap.size := ⟨_, rfl⟩
  have Z9 := Z4.out
  rw [← hg2] at Z9 hgp ⊢
  have HG2 := Lib.hid hg2
  clear hg2 Z4
  have z0 : v4.cell? ⟨g2, 0, none⟩ = some (.slice none 0 0) := by rw [cell_of_row v4 g2 0 _ _ _ Z9]; rfl
  have z1 : v4.cell? ⟨g2, 1, none⟩ = some (.slice none 0 0) := by rw [cell_of_row v4 g2 1 _ _ _ Z9]; rfl
  have z2 : v4.cell? ⟨g2, 2, none⟩ = some (.slice none 0 0) := by rw [cell_of_row v4 g2 2 _ _ _ Z9]; rfl
  have zf : ∀ j, v4.frozen? ⟨g2, j, none⟩ = false := fun j => by simp [World.frozen?, Z9]
  have hat : (((v4.setCell ⟨g2, 0, none⟩ (.slice (some ⟨gO, 0, none⟩) no no)).setCell ⟨g2, 1, none⟩ (.slice (some ⟨gS, 0, none⟩) ns ns)).setCell ⟨g2, 2, none⟩ (.slice aT nt ct)).heap[g2]? = some (.cells (cfgCells (some ⟨gO, 0, none⟩) no no (some ⟨gS, 0, none⟩) ns ns aT nt ct) 26 (0, 0)) := by
    have q0 := setCell_heap_at (o := 0) (u := .slice (some ⟨gO, 0, none⟩) no no) Z9
    have q1 := setCell_heap_at (o := 1) (u := .slice (some ⟨gS, 0, none⟩) ns ns) q0
    have q2 := setCell_heap_at (o := 2) (u := .slice aT nt ct) q1
    unfold cfgCells
    simpa using q2
  have HAT := Lib.hid hat
  have hsu : Upd (fun k => k = g2) v4 (((v4.setCell ⟨g2, 0, none⟩ (.slice (some ⟨gO, 0, none⟩) no no)).setCell ⟨g2, 1, none⟩ (.slice (some ⟨gS, 0, none⟩) ns ns)).setCell ⟨g2, 2, none⟩ (.slice aT nt ct)) := upd_gset (upd_gset (upd_gset (Upd.refl _ _)))
  have HSU : Aside _ := hsu
  clear hat hsu Z9
  go_wp2
  refine bodyPost_ret (results_cell_row rfl _ _ g2 26 (cfgCells (some ⟨gO, 0, none⟩) no no (some ⟨gS, 0, none⟩) ns ns aT nt ct) (0, 0) _ rfl HAT.out Tryz.underlying26 rfl info_cfgr) rfl ?_
  exact ⟨some ⟨gO, 0, none⟩, no, some ⟨gS, 0, none⟩, ns, aT, nt, ct, ⟨os, ss, ps⟩, rfl, fun W hW => HCI.out W ((HSU.out.mono (S' := fun k => k ≤ w.heap.size) (fun k _ e => by have := HG2.out; omega)).trans hW (fun k _ e => Nat.le_of_lt e)), ⟨HOF.out, HSF.out, HPF.out⟩, ⟨⟨Nat.le_refl _, by unfold maxLen; omega⟩, ⟨Nat.le_refl _, by unfold maxLen; omega⟩, HCT.out⟩, U4.out.trans (HSU.out.mono (S' := fun k => w.heap.size ≤ k) (fun k _ e => by have := HG2.out; omega)) (fun k hk e => by omega), HLK.out⟩
end Go.Proofs.YtbiompjhenkieaaGreat
