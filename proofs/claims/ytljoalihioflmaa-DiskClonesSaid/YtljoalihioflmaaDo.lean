/-
  recouplaw01.do: an act on the disk of package disk. Conditions: those of the theorem ('DiskAt': the pointer leads to a disk that holds D).
-/
import Derived.Test.YtljoalihioflmaaDiskH
import Derived.Test.YtljoalihioflmaaRefC
namespace Go.Proofs.Ytljoalihioflmaa
open Go.RowKit
set_option maxRecDepth 100000
set_option linter.unusedVariables false

/-- An act of any kind: past 5 it is a restart. -/
def DM.does (D : DM) (k A B : Int) (ys : List UInt8) (keep : Nat → Int) : Int × DM := if k ≤ 5 then D.act k A B ys else (0, D.restart keep)
theorem DM.does_le {D : DM} {k A B : Int} {ys : List UInt8} {keep : Nat → Int} (h : k ≤ 5) : D.does k A B ys keep = D.act k A B ys := by simp [DM.does, h]
theorem DM.does_gt {D : DM} {k A B : Int} {ys : List UInt8} {keep : Nat → Int} (h : ¬ k ≤ 5) : D.does k A B ys keep = (0, D.restart keep) := by simp [DM.does, h]

theorem After.unalloc {w : World} {o : Obj} {p : Nat} {S : Nat → Prop} {r : Int × DM} {e : Ending} {w' : World} (h : After (w.alloc o) p S r e w') : After w p S r e w' := by
  obtain ⟨rfl, S', V', hd, hu, hin⟩ := h
  refine ⟨rfl, S', V', hd, ((Upd.refl S w).alloc o).trans hu (fun _ _ x => x), fun k hk => (hin k hk).imp id (fun x => ⟨?_, x.2⟩)⟩
  have := x.1
  simp at this
  omega

set_option maxHeartbeats 1600000 in
theorem do_in {w : World} {p : Nat} {S : Nat → Prop} {V : Nat → Value} {D : DM} (h : DiskAt w p S V D) (k A B : Int) (ad : Option Addr) (ys : List UInt8) (cy : Nat) (k0 k1 k2 k3 k4 k5 k6 k7 : Int) (hk0 : 0 ≤ k) (hB : B ≤ 9223372036854775807)
    (hyc : ys.length ≤ cy) (hycm : cy ≤ maxLen) (hyb : IsBytes w ad ys) (hyn : ad = none → cy = 0) (hys : ys ≠ [] → ∀ x, ad = some x → ¬ S x.block) :
    Calls Try.prog 15 #[.pointer (some ⟨p, 0, none⟩), .agg #[.int .u8 k, .int .i64 A, .int .i64 B, .slice ad ys.length cy, .int .i64 k0, .int .i64 k1, .int .i64 k2, .int .i64 k3, .int .i64 k4, .int .i64 k5, .int .i64 k6, .int .i64 k7]] w
      (After w p S (D.does k A B ys (kp k0 k1 k2 k3 k4 k5 k6 k7))) := by
  have hA := fun o => h.below ((Below.refl _ w).alloc (Nat.le_refl _) o)
  have hyA : ∀ o, IsBytes (w.alloc o) ad ys := fun o => hyb.upd (S := fun _ => False) ((Upd.refl _ w).alloc o) (fun _ _ _ x => x)
  clear hyb
  by_cases h5 : k ≤ 5
  · rw [DM.does_le h5]
    have hk : k = 0 ∨ k = 1 ∨ k = 2 ∨ k = 3 ∨ k = 4 ∨ k = 5 := by omega
    rcases hk with rfl | rfl | rfl | rfl | rfl | rfl
    · go_enter Try.func15, Try.ntmps15
      go_wp2_with fail
      refine (append_in (hA _) A ad ys cy hyc hycm (hyA _) hyn hys).mono ?_
      intro e w1 r0
      obtain ⟨rfl, r⟩ := r0.unalloc
      go_wp2
      go_ret
      exact ⟨rfl, r⟩
    · go_enter Try.func15, Try.ntmps15
      go_wp2_with fail
      refine (sync_in (hA _) A).mono ?_
      intro e w1 r0
      obtain ⟨rfl, r⟩ := r0.unalloc
      go_wp2
      go_ret
      exact ⟨rfl, r⟩
    · go_enter Try.func15, Try.ntmps15
      go_wp2_with fail
      refine (cut_in (hA _) A B).mono ?_
      intro e w1 r0
      obtain ⟨rfl, r⟩ := r0.unalloc
      go_wp2
      go_ret
      exact ⟨rfl, r⟩
    · go_enter Try.func15, Try.ntmps15
      go_wp2_with fail
      refine (rename_in (hA _) A B).mono ?_
      intro e w1 r0
      obtain ⟨rfl, r⟩ := r0.unalloc
      go_wp2
      go_ret
      exact ⟨rfl, r⟩
    · go_enter Try.func15, Try.ntmps15
      go_wp2_with fail
      refine (remove_in (hA _) A).mono ?_
      intro e w1 r0
      obtain ⟨rfl, r⟩ := r0.unalloc
      go_wp2
      go_ret
      exact ⟨rfl, r⟩
    · go_enter Try.func15, Try.ntmps15
      go_wp2_with fail
      refine (fuse_in (hA _) B hB).mono ?_
      intro e w1 r0
      obtain ⟨rfl, r⟩ := r0.unalloc
      go_wp2
      go_ret
      exact ⟨rfl, r⟩
  · rw [DM.does_gt h5]
    have e0 : ¬ k = 0 := by omega
    have e1 : ¬ k = 1 := by omega
    have e2 : ¬ k = 2 := by omega
    have e3 : ¬ k = 3 := by omega
    have e4 : ¬ k = 4 := by omega
    have e5 : ¬ k = 5 := by omega
    go_enter Try.func15, Try.ntmps15
    go_wp2_with fail
    refine (restart_in (hA _) k0 k1 k2 k3 k4 k5 k6 k7).mono ?_
    rintro e w1 ⟨rfl, ⟨V', r⟩, u⟩
    have u1 := ((Upd.refl S w).alloc _).trans u (fun _ _ x => x)
    go_wp2
    go_ret
    exact ⟨rfl, S, V', r, u1, fun j hj => .inl hj⟩
end Go.Proofs.Ytljoalihioflmaa
