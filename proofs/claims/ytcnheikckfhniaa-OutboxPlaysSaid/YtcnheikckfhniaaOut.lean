/-
  Package outbox: an outbox in memory; Wait, New, keep, say, Put, NextKey. Conditions: those of each theorem.
-/
import Derived.Test.YtcnheikckfhniaaOm
import Derived.Test.YtcnheikckfhniaaTqDo
namespace Go.Proofs.Ytcnheikckfhniaa
open Go.RowKit
set_option maxRecDepth 100000

def waitOf (t : Int) : Int := if t < 1 then 0 else if 3 < t then 8 else if t = 1 then 1 else if t = 2 then 2 else 4
theorem waitOf_bounds (t : Int) : 0 ≤ waitOf t ∧ waitOf t ≤ 8 := by
  unfold waitOf
  split
  · omega
  · split
    · omega
    · split
      · omega
      · split <;> omega
theorem out_wait (t : Int) (w : World) : Calls Try.prog 19 #[.int .i64 t] w fun e w' => e = .returned (.int .i64 (waitOf t)) ∧ w = w' := by
  by_cases h1 : t < 1
  · have e : waitOf t = 0 := if_pos h1
    rw [e]
    clear e
    go_enter Try.func19, Try.ntmps19
    go_wp2
    go_ret
    exact ⟨rfl, rfl⟩
  · by_cases h2 : 8 < t
    · have e : waitOf t = 8 := by unfold waitOf; rw [if_neg h1, if_pos (by omega)]
      rw [e]
      clear e
      go_enter Try.func19, Try.ntmps19
      go_wp2
      go_ret
      exact ⟨rfl, rfl⟩
    · have h3 : t = 1 ∨ t = 2 ∨ t = 3 ∨ t = 4 ∨ t = 5 ∨ t = 6 ∨ t = 7 ∨ t = 8 := by omega
      clear h1 h2
      rcases h3 with rfl | rfl | rfl | rfl | rfl | rfl | rfl | rfl
      all_goals
        go_enter Try.func19, Try.ntmps19
        go_wp2
        go_ret
        exact ⟨rfl, rfl⟩

/-- The timer of a message. -/
def tmOf (m : Msg) : Tm := (m.due, m.key)
/-- An outbox in block p; its blocks are among S; its last key; its messages; its timers. -/
structure OutSt (w : World) (p : Nat) (S : Nat → Prop) (last : Int) (xs : List Msg) (ts : List Tm) : Prop where
  nd : NDK xs
  few : xs.length ≤ 900
  lst : 0 ≤ last ∧ last ≤ 9223372036854775807
  keys : ∀ m ∈ xs, 1 ≤ m.key ∧ m.key ≤ last
  c0 : w.cell? ⟨p, 0, none⟩ = some (.int .i64 last)
  fz : ∀ j, w.frozen? ⟨p, j, none⟩ = false
  st : ∃ T ys, (∀ k, T k → S k) ∧ TimSt w p 2 T ys ∧ ys.Perm ts ∧ ((xs = [] ∧ w.cell? ⟨p, 1, none⟩ = some (.map none)) ∨ ∃ b, S b ∧ ¬ T b ∧ w.cell? ⟨p, 1, none⟩ = some (.map (some b)) ∧ MsgMap w b xs)
/-- An outbox whose timers are its messages'. -/
def OutAt (w : World) (p : Nat) (S : Nat → Prop) (last : Int) (xs : List Msg) : Prop := OutSt w p S last xs (xs.map tmOf)
theorem key_w64 {a last : Int} (h : 1 ≤ a ∧ a ≤ last) (hl : 0 ≤ last ∧ last ≤ 9223372036854775807) : W64 a := WalkArith.wf_i64 (by omega)
section
variable {w w' : World} {p : Nat} {S S' : Nat → Prop} {last : Int} {xs ys : List Msg} {ts us : List Tm}
theorem OutSt.lt (h : OutSt w p S last xs ts) : p < w.heap.size := by obtain ⟨T, ys, _, h2, _⟩ := h.st; exact h2.2.1
theorem OutSt.own (h : OutSt w p S last xs ts) : S p := by obtain ⟨T, ys, h1, h2, _⟩ := h.st; exact h1 _ h2.1
theorem OutSt.mono (h : OutSt w p S last xs ts) (hs : ∀ k, S k → S' k) : OutSt w p S' last xs ts := by
  obtain ⟨T, ys, h1, h2, h3, h4⟩ := h.st
  exact ⟨h.nd, h.few, h.lst, h.keys, h.c0, h.fz, T, ys, fun k x => hs k (h1 k x), h2, h3, h4.imp (fun x => x) (fun ⟨b, q1, q2⟩ => ⟨b, hs b q1, q2⟩)⟩
theorem OutSt.upd (h : OutSt w p S last xs ts) (hu : Upd S' w w') (hn : ∀ k, S k → ¬ S' k) : OutSt w' p S last xs ts := by
  have hlt := h.lt
  have hp := hn _ h.own
  obtain ⟨T, ys, h1, h2, h3, h4⟩ := h.st
  refine ⟨h.nd, h.few, h.lst, h.keys, (hu.cell (p := ⟨p, 0, none⟩) hlt hp).trans h.c0, fun j => (hu.frozen (p := ⟨p, j, none⟩) hlt hp).trans (h.fz j), T, ys, h1, h2.upd hu (fun k x => hn k (h1 k x)), h3, ?_⟩
  exact h4.imp (fun q => ⟨q.1, (hu.cell (p := ⟨p, 1, none⟩) hlt hp).trans q.2⟩) (fun ⟨b, q1, q2, q3, q4⟩ => ⟨b, q1, q2, (hu.cell (p := ⟨p, 1, none⟩) hlt hp).trans q3, q4.upd hu (hn b q1)⟩)
theorem OutSt.below (h : OutSt w p S last xs ts) (hb : Below w.heap.size w w') : OutSt w' p S last xs ts := h.upd (S' := fun _ => False) (Upd.below hb) (fun _ _ x => x)
theorem OutSt.perm (h : OutSt w p S last xs ts) (hx : xs.Perm ys) (ht : ts.Perm us) : OutSt w p S last ys us := by
  obtain ⟨T, zs, h1, h2, h3, h4⟩ := h.st
  refine ⟨h.nd.perm hx, hx.length_eq ▸ h.few, h.lst, fun m hm => h.keys m (hx.mem_iff.2 hm), h.c0, h.fz, T, zs, h1, h2, h3.trans ht, ?_⟩
  rcases h4 with ⟨e, q⟩ | ⟨b, q1, q2, q3, q4⟩
  · subst e
    exact .inl ⟨List.nil_perm.1 hx, q⟩
  · exact .inr ⟨b, q1, q2, q3, q4.perm h.nd hx⟩
theorem OutAt.perm (h : OutAt w p S last xs) (hx : xs.Perm ys) : OutAt w p S last ys := OutSt.perm h hx (hx.map _)
theorem OutSt.lower (h : OutSt w p S last xs ts) : OutSt w p (fun k => S k ∧ k < w.heap.size) last xs ts := by
  obtain ⟨T, ys, h1, h2, h3, h4⟩ := h.st
  exact ⟨h.nd, h.few, h.lst, h.keys, h.c0, h.fz, _, ys, fun k x => ⟨h1 k x.1, x.2⟩, h2.lower, h3, h4.imp (fun x => x) (fun ⟨b, q1, q2, q3, q4⟩ => ⟨b, ⟨q1, q4.lt⟩, fun x => q2 x.1, q3, q4⟩)⟩
end

theorem out_next {w : World} {p : Nat} {S : Nat → Prop} {last : Int} {xs : List Msg} {ts : List Tm} (h : OutSt w p S last xs ts) (hl : last < 9223372036854775807) : Calls Try.prog 17 #[.pointer (some ⟨p, 0, none⟩)] w fun e w' => e = .returned (.int .i64 (last + 1)) ∧ w = w' := by
  have h0 := h.c0
  have h1 := h.lst
  clear h
  go_enter Try.func17, Try.ntmps17
  go_wp2
  go_ret
  exact ⟨rfl, rfl⟩
theorem out_new (w : World) : Calls Try.prog 9 #[] w fun e w' => e = .returned (.pointer (some ⟨w.heap.size, 0, none⟩)) ∧ OutAt w' w.heap.size (fun k => k = w.heap.size) 0 [] ∧ Below w.heap.size w w' ∧ w'.heap.size = w.heap.size + 1 := by
  go_enter Try.func9, Try.ntmps9
  go_wp2
  go_ret
  have A := arr_new w #[.int .i64 0, .map none, .slice none 0 0, .map none] 61
  have hf : ∀ j, (w.alloc (.cells #[.int .i64 0, .map none, .slice none 0 0, .map none] 61)).frozen? ⟨w.heap.size, j, none⟩ = false := fun j => by
    unfold World.frozen?
    rw [heap_alloc_new]
    simp
  refine ⟨rfl, ?_, upd_box _, by simp⟩
  exact { nd := List.Pairwise.nil, few := by simp, lst := by omega, keys := fun _ hm => (by cases hm), c0 := A.cells 0 _ rfl, fz := hf, st := ⟨(fun k => k = w.heap.size), [], fun _ x => x, TimSt.bare rfl (by simp) (A.cells 2 _ rfl) (A.cells 3 _ rfl) hf, List.Perm.refl _, .inl ⟨rfl, A.cells 1 _ rfl⟩⟩ }
end Go.Proofs.Ytcnheikckfhniaa
