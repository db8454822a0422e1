/-
  The reference's disk (package recoupref01): Act. Conditions: those of each theorem ('RefAt': the pointer leads to a reference disk that holds D).
-/
import Derived.Test.YtljoalihioflmaaRefB
namespace Go.Proofs.Ytljoalihioflmaa
open Go.RowKit
set_option maxRecDepth 100000

def AfterR (w : World) (p : Nat) (S : Nat → Prop) (r : Int × DM) (e : Ending) (w' : World) : Prop :=
  e = .returned (.int .i64 r.1) ∧ ∃ S' V', RefAt w' p S' V' r.2 ∧ Upd S w w' ∧ ∀ k, S' k → S k ∨ (w.heap.size ≤ k ∧ k < w'.heap.size)

/-- An act of a kind. -/
def DM.act (D : DM) (k A B : Int) (ys : List UInt8) : Int × DM :=
  if k = 0 then D.append A ys else if k = 1 then D.sync A else if k = 2 then D.cut A B else if k = 3 then D.rename A B else if k = 4 then D.remove A else D.lightUp B

set_option maxHeartbeats 1600000 in
theorem ract_lost {w : World} {p : Nat} {S : Nat → Prop} {V : Nat → Value} {D : DM} (h : RefAt w p S V D) (k A B : Int) (v : Value) (hl : D.lost = true) :
    Calls Try.prog 17 #[.pointer (some ⟨p, 0, none⟩), .int .i64 k, .int .i64 A, .int .i64 B, v] w (AfterR w p S (6, D)) := by
  have h26 := h.c26
  rw [hl] at h26
  go_enter Try.func17, Try.ntmps17
  go_wp2
  go_ret
  exact ⟨rfl, S, V, h, Upd.refl _ _, fun k hk => .inl hk⟩

set_option maxHeartbeats 1600000 in
theorem ract_fuse {w : World} {p : Nat} {S : Nat → Prop} {V : Nat → Value} {D : DM} (h : RefAt w p S V D) (A B : Int) (v : Value) (hl : D.lost = false) (hB : B ≤ 9223372036854775807) :
    Calls Try.prog 17 #[.pointer (some ⟨p, 0, none⟩), .int .i64 5, .int .i64 A, .int .i64 B, v] w (AfterR w p S (D.lightUp B)) := by
  have h26 := h.c26
  rw [hl] at h26
  by_cases hz : B < 0
  · have e1 : D.lightUp B = (1, D) := by simp [DM.lightUp, hl, hz]
    rw [e1]
    clear e1 hl
    go_enter Try.func17, Try.ntmps17
    go_wp2
    go_ret
    exact ⟨rfl, S, V, h, Upd.refl _ _, fun k hk => .inl hk⟩
  · obtain ⟨m, rfl⟩ := Int.eq_ofNat_of_zero_le (show 0 ≤ B by omega)
    have e1 : D.lightUp m = (0, { D with lit := true, fuse := m }) := by simp [DM.lightUp, hl]
    rw [e1]
    clear e1 hl
    have h25 := h.c25
    have f25 := h.frozen 25
    go_enter Try.func17, Try.ntmps17
    go_wp2
    go_ret
    exact ⟨rfl, S, V, h.fused true m _ (by simp) (by omega), (Upd.refl S w).setCell (p := ⟨p, 25, none⟩) (.inl h.own) _, fun k hk => .inl hk⟩

set_option maxHeartbeats 1600000 in
/-- The number of a file is none of 0 to 7. -/
theorem ract_range {w : World} {p : Nat} {S : Nat → Prop} {V : Nat → Value} {D : DM} (h : RefAt w p S V D) (k A B : Int) (v : Value) (hl : D.lost = false) (hk : k ≠ 5) (hA : inRange A = false) :
    Calls Try.prog 17 #[.pointer (some ⟨p, 0, none⟩), .int .i64 k, .int .i64 A, .int .i64 B, v] w (AfterR w p S (1, D)) := by
  have h26 := h.c26
  rw [hl] at h26
  have hk5 := beq_eq_false_iff_ne.2 hk
  clear hk hl
  by_cases h0 : A < 0
  · clear hA
    go_enter Try.func17, Try.ntmps17
    go_wp2
    go_ret
    exact ⟨rfl, S, V, h, Upd.refl _ _, fun k hk => .inl hk⟩
  · have h7 : 7 < A := by simp [inRange] at hA; omega
    clear hA
    go_enter Try.func17, Try.ntmps17
    go_wp2
    go_ret
    exact ⟨rfl, S, V, h, Upd.refl _ _, fun k hk => .inl hk⟩
end Go.Proofs.Ytljoalihioflmaa
