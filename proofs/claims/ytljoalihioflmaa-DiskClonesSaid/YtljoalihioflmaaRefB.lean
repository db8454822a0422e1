/-
  The reference's disk (package recoupref01): New, Room. Conditions: those of each theorem ('RefAt': the pointer leads to a reference disk that holds D).
-/
import Derived.Test.YtljoalihioflmaaRef
import Derived.Test.YtljoalihioflmaaOpsB
namespace Go.Proofs.Ytljoalihioflmaa
open Go.RowKit
set_option maxRecDepth 100000

set_option maxHeartbeats 400000 in
theorem rnew_in (c : Nat) (w : World) (hc : c ≤ 1048576) :
    Calls Try.prog 14 #[.int .i64 (c : Int)] w fun e w' => e = .returned (.pointer (some ⟨w.heap.size, 0, none⟩)) ∧
      (∃ V, RefAt w' w.heap.size (fun k => k = w.heap.size) V (DM.new c)) ∧ Below w.heap.size w w' ∧ w'.heap.size = w.heap.size + 1 := by
  go_enter Try.func14, Try.ntmps14
  go_wp2
  go_ret
  refine ⟨rfl, ⟨fun _ => .slice none 0 0, ?_⟩, (Below.refl _ _).alloc (Nat.le_refl _) _, by simp⟩
  refine ⟨⟨hc, by rw [DM.new_used]; exact Nat.zero_le _, fun i _ => Nat.le_refl _, fun i _ _ => ⟨rfl, rfl⟩, by simp [DM.new]⟩, rfl, ?_, ⟨_, heap_alloc_new w _, rfl⟩, ?_, ?_, ?_, ?_, ?_, ?_, ?_, ?_, ?_⟩
  · rintro k rfl; simp
  · simp [DM.new]
  · intro i hi; rcases eight hi with rfl | rfl | rfl | rfl | rfl | rfl | rfl | rfl <;> simp [DM.new]
  · intro i hi; rcases eight hi with rfl | rfl | rfl | rfl | rfl | rfl | rfl | rfl <;> simp
  · intro i hi; rcases eight hi with rfl | rfl | rfl | rfl | rfl | rfl | rfl | rfl <;> simp [DM.new]
  · simp [DM.new, DM.fz]
  · simp [DM.new]
  · intro i hi; exact World.ownsRow_nil _ _ _ _
  · intro i hi g hg; cases hg
  · intro i j _ _ _ g hg; cases hg

set_option maxHeartbeats 1000000 in
theorem rroom_in {w : World} {p : Nat} {S : Nat → Prop} {V : Nat → Value} {D : DM} (h : RefAt w p S V D) :
    Calls Try.prog 54 #[.pointer (some ⟨p, 0, none⟩)] w fun e w' => e = .returned (.int .i64 ((D.cap : Int) - D.used 8)) ∧ w = w' := by
  have hcap := h.ok.cap
  have hus := h.ok.used
  have hsl := h.slice
  have hc0 := h.c0
  have hval := h.val
  have hmono := fun k => D.used_mono 8 k
  clear h
  generalize D.cap = cap at *
  go_enter Try.func54, Try.ntmps54
  go_wp2_with fail
  go_loop [3, 4, 9] (fun r _ i => ∃ k : Nat, k ≤ 8 ∧ i = .int .i64 k ∧ r = .int .i64 ((cap : Int) - D.used k)) (fun _ _ i => 8 - (intOf i).toNat)
  case atStart => exact ⟨0, by omega, rfl, by simp [DM.used]⟩
  case round =>
    obtain ⟨k, hk, rfl, rfl⟩ := hrel
    have hm0 := hmono k hk
    by_cases hlt : k < 8
    · have hm1 := hmono (k + 1) (by omega)
      have x1 := hval k hlt
      obtain ⟨a, c, hv⟩ := hsl k hlt
      rw [hv] at x1
      have hk8 : (k : Int) < 8 := by omega
      have hus1 : D.used (k + 1) = D.used k + (D.f k).b.length := rfl
      have HU := Lib.hid hus1
      rw [hus1] at hm1
      clear hus1 hsl hmono hv hc0 hval
      generalize (D.f k).b.length = n at *
      generalize D.used k = u at *
      go_wp2
      go_round
      case rel => exact ⟨k + 1, by omega, by go_num, by rw [HU.out]; go_num⟩
      case measure => simp [intOf]; omega
    · obtain rfl : k = 8 := by omega
      clear hsl hmono hc0 hval
      go_wp2
      go_ret
      exact ⟨rfl, rfl⟩
end Go.Proofs.Ytljoalihioflmaa
