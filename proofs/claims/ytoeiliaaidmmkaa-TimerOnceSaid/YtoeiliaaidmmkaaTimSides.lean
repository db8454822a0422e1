/-
  The laws of layer 12: timers beside what the law itself has. Conditions: those of each theorem.
-/
import Derived.Test.YtoeiliaaidmmkaaTimSame
namespace Go.Proofs.Ytoeiliaaidmmkaa
open Go.RowKit
set_option maxRecDepth 100000

theorem sorted_of {xs : List Tm} (h : ND xs) : ∃ ws, Srt ws ∧ ws.Perm xs := by
  have hp : (xs.mergeSort fun a b => !tlt b a).Perm xs := List.mergeSort_perm xs _
  refine ⟨xs.mergeSort fun a b => !tlt b a, ?_, hp⟩
  have h1 : (xs.mergeSort fun a b => !tlt b a).Pairwise (fun a b => (!tlt b a) = true) := List.pairwise_mergeSort (fun a b c => by
      simp only [Bool.not_eq_true', tge_iff]
      omega) (fun a b => by
      cases h1 : tlt b a
      · simp
      · simp [tge_of_lt h1]) xs
  have h2 : ND (xs.mergeSort fun a b => !tlt b a) := h.perm hp.symm
  refine (h1.and h2).imp ?_
  rintro a b ⟨q1, q2⟩
  have q1 : tlt b a = false := by simpa using q1
  rw [tge_iff] at q1
  rw [tlt_iff]
  omega

/-- Timers whose blocks are not below B, and all below B as it was. -/
structure Beside (B p : Nat) (w W : World) (xs : List Tm) : Prop where
  st : TimSt W p (fun k => B ≤ k) xs
  below : Below B w W
  le : B ≤ w.heap.size
theorem Beside.upd {B p : Nat} {w W W' : World} {xs ys : List Tm} (h : Beside B p w W xs) (hs : TimSt W' p (fun k => B ≤ k) ys) (hu : Upd (fun k => B ≤ k) W W') : Beside B p w W' ys :=
  ⟨hs, h.below.trans (hu.toBelow (Nat.le_trans h.le h.below.size) (fun k hk e => by omega)), h.le⟩
theorem Beside.after {B p : Nat} {w W W' : World} {xs : List Tm} (h : Beside B p w W xs) (hb : Below W.heap.size W W') : Beside B p w W' xs :=
  ⟨h.st.below hb, h.below.trans (hb.mono (Nat.le_trans h.le h.below.size)), h.le⟩

/-- What Set does beside all else. -/
theorem bes_set {B p : Nat} {w W : World} {xs : List Tm} (h : Beside B p w W xs) (a d : Int) (ha : W64 a) (hf : xs.length < 1000) : Calls Try.prog 8 #[.pointer (some ⟨p, 0, none⟩), .int .i64 a, .int .i64 d] W fun e W' => e = .returned (.tuple #[]) ∧ ∃ ys, Beside B p w W' ys ∧ ys.Perm (without xs a ++ [(d, a)]) :=
  (tim_set h.st a d ha hf).mono fun _ _ ⟨he, ys, hs, hp, hu⟩ => ⟨he, ys, h.upd (hs.mono (more_up (Nat.le_trans h.le h.below.size))) hu, hp⟩
theorem bes_stop {B p : Nat} {w W : World} {xs : List Tm} (h : Beside B p w W xs) (a : Int) (ha : W64 a) : Calls Try.prog 11 #[.pointer (some ⟨p, 0, none⟩), .int .i64 a] W fun e W' => e = .returned (.bool (decide ((without xs a).length < xs.length))) ∧ ∃ ys, Beside B p w W' ys ∧ ys.Perm (without xs a) :=
  (tim_stop h.st a ha).mono fun _ _ ⟨he, ys, hs, hp, hu⟩ => ⟨he, ys, h.upd hs hu, hp⟩
theorem bes_due {B p : Nat} {w W : World} {xs ws : List Tm} (h : Beside B p w W xs) (hs : Srt ws) (hp : ws.Perm xs) (now : Int) : Calls Try.prog 12 #[.pointer (some ⟨p, 0, none⟩), .int .i64 now] W fun e W' => ∃ k a c, k ≤ ws.length ∧ e = .returned (.slice a k c) ∧ IntRow W' a k (fun i => (tget ws i).2) ∧ (∀ b o, a = some ⟨b, o, none⟩ → W.heap.size ≤ b) ∧ (∀ i, i < k → (tget ws i).1 ≤ now) ∧ (k < ws.length → now < (tget ws k).1) ∧ ∃ ys, Beside B p w W' ys ∧ ys.Perm (ws.drop k) :=
  (tim_due h.st hs hp now).mono fun _ _ ⟨k, a, c, hk, he, hr, hb, h1, h2, ⟨ys, hy, py⟩, hu⟩ => ⟨k, a, c, hk, he, hr, hb, h1, h2, ys, h.upd hy hu, py⟩
theorem set_len {xs ys : List Tm} {a d : Int} (h : ys.Perm (without xs a ++ [(d, a)])) : ys.length ≤ xs.length + 1 := by
  rw [h.length_eq, List.length_append, List.length_singleton]
  have := List.length_filter_le (fun x : Tm => x.2 != a) xs
  unfold without
  omega
theorem stop_len {xs ys : List Tm} {a : Int} (h : ys.Perm (without xs a)) : ys.length ≤ xs.length := by
  rw [h.length_eq]
  exact List.length_filter_le _ _
theorem bes_fresh (w : World) : Beside w.heap.size w.heap.size w (w.alloc (.cells #[.slice none 0 0, .map none] 30)) [] :=
  ⟨TimSt.fresh w _ (Nat.le_refl _), upd_box _, Nat.le_refl _⟩
end Go.Proofs.Ytoeiliaaidmmkaa
