/-
  Package timer: Clone. Conditions: those of each theorem.
-/
import Derived.Test.YtoeiliaaidmmkaaTimSt
import Derived.Deep.RegionHeld3
import Derived.Deep.Onto
namespace Go.Proofs.Ytoeiliaaidmmkaa
open Go.RowKit
set_option maxRecDepth 100000

theorem clone_done {w w3 : World} {g m c : Nat} {xs : List Tm} {ix : Int → Option Nat} (hw : w.heap.size ≤ w3.heap.size) (ho : w3.ownsRow w.heap.size 35 2 (.slice (some ⟨g, 0, none⟩) xs.length c) xs.length (tcells xs)) (hm : MapIs w3 m xs.length ix) (hmb : w.heap.size ≤ m)
    (hix : IxOk xs ix) (h64 : ∀ x ∈ xs, W64 x.2) (few : xs.length ≤ 1000) (hh : HeapTo xs xs.length) :
    TimSt (w3.alloc (.cells #[.slice (some ⟨g, 0, none⟩) xs.length c, .map (some m)] 30)) w3.heap.size (fun k => w.heap.size ≤ k) xs := by
  have A := arr_new w3 #[.slice (some ⟨g, 0, none⟩) xs.length c, .map (some m)] 30
  have hg : g < w3.heap.size := own_in ho rfl
  have hB := upd_box (w := w3) (.cells #[.slice (some ⟨g, 0, none⟩) xs.length c, .map (some m)] 30)
  refine ⟨hw, by simp, hh, .inr ⟨g, m, c, own_base ho rfl, hmb, ⟨by simp, A.cells 0 _ rfl, A.cells 1 _ rfl, fun j => ?_, ?_, by omega, h64, few⟩, ix, hm.below hB, hix⟩⟩
  · unfold World.frozen?
    rw [heap_alloc_new]
    simp
  · exact (ownsRow_upd (S := fun _ => False) ho (Upd.below hB) (fun _ _ x => x)).mono (Nat.zero_le _)

set_option maxHeartbeats 2000000 in
theorem tim_clone {w : World} {p : Nat} {S : Nat → Prop} {xs : List Tm} (h : TimSt w p S xs) : Calls Try.prog 16 #[.pointer (some ⟨p, 0, none⟩)] w fun e w' => ∃ q, e = .returned (.pointer (some ⟨q, 0, none⟩)) ∧ TimSt w' q (fun k => w.heap.size ≤ k) xs ∧ Below w.heap.size w w' := by
  have hf := h.few
  have hh := h.2.2.1
  obtain ⟨-, hpl, -, h4⟩ := h
  rcases h4 with ⟨h0, h1, h2, _⟩ | ⟨g, m, c, _, _, ha⟩
  · subst h0
    have HC : Aside (∀ w, Calls Try.prog 24 #[.slice none 0 0] w fun e w' => e = .returned (.slice none 0 0) ∧ w' = w) := clone_tm_nil 0 0
    have HM : Aside (∀ w, Calls Try.prog 27 #[.map none] w fun e w' => e = .returned (.map none) ∧ w' = w) := clone_map_nil
    go_enter Try.func16, Try.ntmps16
    go_wp2
    go_region_held3 (fun w' => w'.cell? ⟨p, 0, none⟩ = some (.slice none 0 0) ∧ w'.cell? ⟨p, 1, none⟩ = some (.map none)) (first | exact ⟨h1, h2⟩ | exact ⟨cell_laid _ hpl h1, cell_laid _ hpl h2⟩) ((first | (go_at_call 24; refine (HC.out _).mono ?_; rintro e w3 ⟨rfl, rfl⟩) | (go_at_call 27; refine (HM.out _).mono ?_; rintro e w3 ⟨rfl, rfl⟩)))
    all_goals
      go_wp2
      go_ret
      refine ⟨_, rfl, (TimSt.fresh w (fun k => w.heap.size ≤ k) (Nat.le_refl _)).below ⟨rfl, rfl, rfl, Nat.le_refl _, fun _ _ => rfl⟩, (upd_box _).drew⟩
  · have h1 := ha.c0
    have h2 := ha.c1
    obtain ⟨ix, hm, hix⟩ := ha.mp
    have hrow := trow_own ha.row rfl
    have HIX : Aside _ := hix
    have H64 : Aside (∀ x ∈ xs, W64 x.2) := ha.w64
    have HH : Aside (HeapTo xs xs.length) := hh
    have HC : Aside (∀ w2, Below w.heap.size w w2 → Calls Try.prog 24 #[.slice (some ⟨g, 0, none⟩) xs.length c] w2 fun e w' => ∃ g' c', e = .returned (.slice (some ⟨g', 0, none⟩) xs.length c') ∧ w'.ownsRow w.heap.size 35 2 (.slice (some ⟨g', 0, none⟩) xs.length c') xs.length (tcells xs) ∧ Below w2.heap.size w2 w' ∧ Below w.heap.size w w') := fun w2 b2 =>
      (clone_tm (hrow.below b2) rfl hf).mono fun e w' ⟨g', c', he, ho, hb⟩ => ⟨g', c', he, ho.mono b2.size, hb, b2.trans (hb.mono b2.size)⟩
    have HM : Aside (∀ w2, Below w.heap.size w w2 → Calls Try.prog 27 #[.map (some m)] w2 fun e w' => ∃ m', e = .returned (.map (some m')) ∧ MapIs w' m' xs.length ix ∧ w.heap.size ≤ m' ∧ Below w2.heap.size w2 w' ∧ Below w.heap.size w w') := fun w2 b2 =>
      (clone_map (hm.below b2)).mono fun e w' ⟨he, r, hb⟩ => ⟨_, he, r, b2.size, hb, b2.trans (hb.mono b2.size)⟩
    clear ha hm hix hrow hh
    have b0 : Below w.heap.size w w := Below.refl _ _
    go_enter Try.func16, Try.ntmps16
    go_wp2
    go_region_held3 (fun w' => Below w.heap.size w w' ∧ w'.cell? ⟨p, 0, none⟩ = some (.slice (some ⟨g, 0, none⟩) xs.length c) ∧ w'.cell? ⟨p, 1, none⟩ = some (.map (some m))) (refine ⟨?_, (Below.cell (p := ⟨p, 0, none⟩) ?_ hpl).trans h1, (Below.cell (p := ⟨p, 1, none⟩) ?_ hpl).trans h2⟩ <;> (with_reducible (repeat (first | assumption | refine Below.drew ?_ | refine blw_alloc ?_ _)))) ((first | (go_at_call 24; refine Calls.mono (HC.out _ ?_) ?_; (with_reducible (repeat (first | assumption | refine Below.drew ?_ | refine blw_alloc ?_ _))); rintro e w3 ⟨g', c', rfl, ho, bo, bbo⟩) | (go_at_call 27; refine Calls.mono (HM.out _ ?_) ?_; (with_reducible (repeat (first | assumption | refine Below.drew ?_ | refine blw_alloc ?_ _))); rintro e w4 ⟨m', rfl, hm', hmb, bm, bbm⟩)))
    all_goals
      have HF : Aside (TimSt (w4.alloc (.cells #[.slice (some ⟨g', 0, none⟩) xs.length c', .map (some m')] 30)) w4.heap.size (fun k => w.heap.size ≤ k) xs) := clone_done bbm.size (ownsRow_upd (S := fun _ => False) ho (Upd.below bm) (fun _ _ x => x)) hm' hmb HIX.out H64.out hf HH.out
      have HB : Aside (Below w.heap.size w w4) := bbm
      clear ho bo bbo bm hm' bbm
      go_wp2
      go_ret
      exact ⟨_, rfl, HF.out, blw_alloc HB.out _⟩
end Go.Proofs.Ytoeiliaaidmmkaa
