/-
  Package rma: Take. Conditions: those of each theorem.
-/
import Derived.Test.YtkjkamcjbhhefaaDoorRmRead
namespace Go.Proofs.YtkjkamcjbhhefaaDoor
open Go.RowKit
set_option maxRecDepth 100000

def TakeR (w : World) (p : Nat) (S : Nat → Prop) (rest : List UInt8) (bad : Bool) (e : Ending) (w' : World) : Prop :=
  ∃ (r : Ret) (us gs : List Int) (rest' : List UInt8) (bad' : Bool), InAt w' p S rest' bad' ∧ Upd (fun k => k = p) w w' ∧ ReadP rest bad r us gs rest' bad' ∧ (bad' = true → e = .returned (.agg #[.int .i64 0, .int .i64 0, .int .i64 0, .int .i64 0, .int .i64 0, .bool false, .int .i64 0, .int .i64 0, .slice none 0 0, .slice none 0 0, .int .i64 0, .int .i64 0, .int .i64 0, .int .i64 0])) ∧ (bad' = false → e = .returned (.agg #[.int .i64 r.num, .int .i64 r.ord, .int .i64 r.rea, .int .i64 r.want, .int .i64 r.res, .bool r.cred, .int .i64 r.st, .int .i64 r.day, .slice r.uA r.uN r.uC, .slice r.gA r.gN r.gC, .int .i64 r.wor, .int .i64 r.pai, .int .i64 r.cre, .int .i64 r.giv]) ∧ NewLi w' w.heap.size r.uA r.uN r.uC us ∧ NewLi w' w.heap.size r.gA r.gN r.gC gs ∧ r.uN ≤ 200 ∧ r.gN = r.uN ∧ Fit64 r us gs)

set_option maxHeartbeats 8000000 in
theorem rma_take {w : World} {p : Nat} {S : Nat → Prop} {rest : List UInt8} {bad : Bool} (h : InAt w p S rest bad) :
    Calls Tryd.prog 26 #[.pointer (some ⟨p, 0, none⟩)] w (TakeR w p S rest bad) := by
  have hpl := h.lt p h.own
  obtain ⟨W, hW, hs2, hb2, X1⟩ := one_box w 32 ret0
  unfold ret0 at hW
  dsimp only at hW
  have HLT : Hid (∀ k, S k → k < w.heap.size) := h.lt
  have HNP : Hid (w.heap.size ≠ p) := by show _ ≠ _; omega
  have HSZ : Hid (W.heap.size = w.heap.size + 1) := hs2
  have HC : Aside _ := rma_read (h.below hb2)
  have U0 : Aside (Upd (fun k => k = p) w W) := (Upd.below hb2 (S := fun _ => False)).mono (fun _ _ x => x.elim)
  have X0 : Aside (RetBox W w.heap.size 32 ret0) := X1
  have HPL := Lib.hid hpl
  clear h X1 hb2 hs2 hpl
  go_enter Tryd.func26, Tryd.ntmps26
  go_upto_region 1 with (fail)
  rw [← hW]
  clear hW
  obtain ⟨g2, hg2⟩ : ∃ g, g = w.heap.size := ⟨_, rfl⟩
  rw [← hg2] at X0 HNP ⊢
  have HG2 : Hid (g2 = w.heap.size) := hg2
  clear hg2
  go_wp2_with fail
  refine Calls.mono HC.out ?_
  rintro e w1 ⟨⟨n0, n1, n2, n3, n4, n5, n6, n7, uA, uN, uC, gA, gN, gC, n10, n11, n12, n13⟩, us, gs, r1, b1, rfl, nu, ng, i1, u1, hN, hGN, h64, hP⟩
  dsimp only at nu ng hN hGN
  have U1 : Aside (Upd (fun k => k = p) w w1) := U0.out.trans u1 (fun _ _ x => x)
  have X1 : Aside (RetBox w1 g2 32 ret0) := X0.out.upd u1 HNP.out
  have I1 : Aside (InAt w1 p S r1 b1) := i1
  have NU : Aside (NewLi w1 (g2 + 1) uA uN uC us) := nu.lower (by have := HSZ.out; have := HG2.out; omega)
  have NG : Aside (NewLi w1 (g2 + 1) gA gN gC gs) := ng.lower (by have := HSZ.out; have := HG2.out; omega)
  have HN : Hid (uN ≤ 200 ∧ gN = uN) := ⟨hN, hGN⟩
  have H64 : Aside (Fit64 ⟨n0, n1, n2, n3, n4, n5, n6, n7, uA, uN, uC, gA, gN, gC, n10, n11, n12, n13⟩ us gs) := h64
  have HP : Aside (ReadP rest bad ⟨n0, n1, n2, n3, n4, n5, n6, n7, uA, uN, uC, gA, gN, gC, n10, n11, n12, n13⟩ us gs r1 b1) := hP
  clear HC nu ng i1 u1 hN hGN h64 hP U0 X0
  go_upto_region 2 with (refine wpList_store_new rfl 32 _ _ rfl _ _ rfl rfl (by kernel_rfl) rfl rfl ?_)
  have U2 : Aside (Upd (fun k => k = p) w (w1.alloc (.cells #[.int .i64 n0, .int .i64 n1, .int .i64 n2, .int .i64 n3, .int .i64 n4, .bool n5, .int .i64 n6, .int .i64 n7, .slice uA uN uC, .slice gA gN gC, .int .i64 n10, .int .i64 n11, .int .i64 n12, .int .i64 n13] 32))) := U1.out.alloc _
  have X2 : Aside (RetBox (w1.alloc (.cells #[.int .i64 n0, .int .i64 n1, .int .i64 n2, .int .i64 n3, .int .i64 n4, .bool n5, .int .i64 n6, .int .i64 n7, .slice uA uN uC, .slice gA gN gC, .int .i64 n10, .int .i64 n11, .int .i64 n12, .int .i64 n13] 32)) g2 32 ret0) := X1.out.below (upd_box _)
  have Y2 : Aside (RetBox (w1.alloc (.cells #[.int .i64 n0, .int .i64 n1, .int .i64 n2, .int .i64 n3, .int .i64 n4, .bool n5, .int .i64 n6, .int .i64 n7, .slice uA uN uC, .slice gA gN gC, .int .i64 n10, .int .i64 n11, .int .i64 n12, .int .i64 n13] 32)) w1.heap.size 32 ⟨n0, n1, n2, n3, n4, n5, n6, n7, uA, uN, uC, gA, gN, gC, n10, n11, n12, n13⟩) := RetBox.made w1 32 ⟨n0, n1, n2, n3, n4, n5, n6, n7, uA, uN, uC, gA, gN, gC, n10, n11, n12, n13⟩
  have I2 : Aside (InAt (w1.alloc (.cells #[.int .i64 n0, .int .i64 n1, .int .i64 n2, .int .i64 n3, .int .i64 n4, .bool n5, .int .i64 n6, .int .i64 n7, .slice uA uN uC, .slice gA gN gC, .int .i64 n10, .int .i64 n11, .int .i64 n12, .int .i64 n13] 32)) p S r1 b1) := I1.out.below (upd_box _)
  have NU2 : Aside (NewLi (w1.alloc (.cells #[.int .i64 n0, .int .i64 n1, .int .i64 n2, .int .i64 n3, .int .i64 n4, .bool n5, .int .i64 n6, .int .i64 n7, .slice uA uN uC, .slice gA gN gC, .int .i64 n10, .int .i64 n11, .int .i64 n12, .int .i64 n13] 32)) (g2 + 1) uA uN uC us) := NU.out.below (upd_box _)
  have NG2 : Aside (NewLi (w1.alloc (.cells #[.int .i64 n0, .int .i64 n1, .int .i64 n2, .int .i64 n3, .int .i64 n4, .bool n5, .int .i64 n6, .int .i64 n7, .slice uA uN uC, .slice gA gN gC, .int .i64 n10, .int .i64 n11, .int .i64 n12, .int .i64 n13] 32)) (g2 + 1) gA gN gC gs) := NG.out.below (upd_box _)
  obtain ⟨g3, hg3⟩ : ∃ g, g = w1.heap.size := ⟨_, rfl⟩
  rw [← hg3] at Y2 ⊢
  clear hg3 U1 X1 I1 NU NG
  generalize w1.alloc (.cells #[.int .i64 n0, .int .i64 n1, .int .i64 n2, .int .i64 n3, .int .i64 n4, .bool n5, .int .i64 n6, .int .i64 n7, .slice uA uN uC, .slice gA gN gC, .int .i64 n10, .int .i64 n11, .int .i64 n12, .int .i64 n13] 32) = w2 at *
  have HB : Aside _ := in_bad I2.out
  go_wp2_with fail
  refine Calls.mono HB.out ?_
  rintro e w3 ⟨rfl, rfl⟩
  obtain ⟨z0, z1, z2, z3, z4, z5, z6, z7, z8, z9, z10, z11, z12, z13⟩ := X2.out.cells
  have zf := X2.out.fz
  clear HB
  cases b1 with
  | true =>
    have HF : Aside _ := set14_at X2.out ret0
    have HFU : Aside _ := set14_upd w2 g2 ret0
    unfold set14 ret0 at HF HFU
    dsimp only at HF HFU
    clear X2
    go_wp2
    refine bodyPost_ret (results_cell_row rfl _ _ g2 32 #[.int .i64 0, .int .i64 0, .int .i64 0, .int .i64 0, .int .i64 0, .bool false, .int .i64 0, .int .i64 0, .slice none 0 0, .slice none 0 0, .int .i64 0, .int .i64 0, .int .i64 0, .int .i64 0] (0, 0) _ rfl HF.out.at' Tryd.underlying32 rfl info_ret) rfl ?_
    have hp := HPL.out
    have h2 := HG2.out
    exact ⟨⟨n0, n1, n2, n3, n4, n5, n6, n7, uA, uN, uC, gA, gN, gC, n10, n11, n12, n13⟩, us, gs, r1, true, I2.out.upd HFU.out (fun k hk e => by have := HLT.out k hk; omega), U2.out.trans (HFU.out.mono (S' := fun k => w.heap.size ≤ k) (fun k _ e => by omega)) (fun k hk e => by omega), HP.out, fun _ => rfl, fun x => by cases x⟩
  | false =>
    have HCV : Aside (∀ j v, (#[.int .i64 n0, .int .i64 n1, .int .i64 n2, .int .i64 n3, .int .i64 n4, .bool n5, .int .i64 n6, .int .i64 n7, .slice uA uN uC, .slice gA gN gC, .int .i64 n10, .int .i64 n11, .int .i64 n12, .int .i64 n13] : Array Value)[j]? = some v → w2.cell? ⟨g3, 0 + j, none⟩ = some v) := Y2.out.at_cells
    have HF : Aside _ := set14_at X2.out ⟨n0, n1, n2, n3, n4, n5, n6, n7, uA, uN, uC, gA, gN, gC, n10, n11, n12, n13⟩
    have HFU : Aside _ := set14_upd w2 g2 ⟨n0, n1, n2, n3, n4, n5, n6, n7, uA, uN, uC, gA, gN, gC, n10, n11, n12, n13⟩
    unfold set14 at HF HFU
    dsimp only at HF HFU
    clear X2
    go_wp2_with (refine wpList_load_cells rfl 32 _ rfl g3 0 rfl _ _ HCV.out Tryd.underlying32 rfl (by kernel_rfl) ?_)
    refine bodyPost_ret (results_cell_row rfl _ _ g2 32 #[.int .i64 n0, .int .i64 n1, .int .i64 n2, .int .i64 n3, .int .i64 n4, .bool n5, .int .i64 n6, .int .i64 n7, .slice uA uN uC, .slice gA gN gC, .int .i64 n10, .int .i64 n11, .int .i64 n12, .int .i64 n13] (0, 0) _ rfl HF.out.at' Tryd.underlying32 rfl info_ret) rfl ?_
    have hp := HPL.out
    have h2 := HG2.out
    exact ⟨⟨n0, n1, n2, n3, n4, n5, n6, n7, uA, uN, uC, gA, gN, gC, n10, n11, n12, n13⟩, us, gs, r1, false, I2.out.upd HFU.out (fun k hk e => by have := HLT.out k hk; omega), U2.out.trans (HFU.out.mono (S' := fun k => w.heap.size ≤ k) (fun k _ e => by omega)) (fun k hk e => by omega), HP.out, (fun x => by cases x), fun _ => ⟨rfl, (NU2.out.upd HFU.out (fun q h1 _ e => by omega)).lower (by omega), (NG2.out.upd HFU.out (fun q h1 _ e => by omega)).lower (by omega), HN.out.1, HN.out.2, H64.out⟩⟩
end Go.Proofs.YtkjkamcjbhhefaaDoor
