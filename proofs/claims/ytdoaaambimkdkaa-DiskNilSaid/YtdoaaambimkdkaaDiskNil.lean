/-
  DiskNil: whatever call is made of a nil disk, it answers ErrArg (or nothing), and the disk has nothing. No conditions: every input.
-/
import Derived.Test.YtdoaaambimkdkaaAwake
import Derived.Test.YtdoaaambimkdkaaAct
namespace Go.Proofs.Ytdoaaambimkdkaa
open Go.RowKit

def SomeErr (P : Int → Prop) (w : World) (e : Ending) (w' : World) : Prop := ∃ n, e = .returned (.int .i64 n) ∧ P n ∧ Below w.heap.size w w'

set_option maxHeartbeats 1600000 in
theorem do_nil (k A B k0 k1 k2 k3 k4 k5 k6 k7 : Int) (a : Option Addr) (len cap : Nat) (w : World) (hk : 0 ≤ k) :
    Calls Try.prog 11 #[.pointer none, .agg #[.int .u8 k, .int .i64 A, .int .i64 B, .slice a len cap, .int .i64 k0, .int .i64 k1, .int .i64 k2, .int .i64 k3, .int .i64 k4, .int .i64 k5, .int .i64 k6, .int .i64 k7]] w
      (SomeErr (fun n => k ≤ 5 → n = 1) w) := by
  by_cases h0 : k = 0
  · subst h0
    go_enter Try.func11, Try.ntmps11
    go_wp2
    go_ret
    exact ⟨_, rfl, fun _ => rfl, by repeat (first | exact Below.refl _ _ | refine Below.drew ?_ | refine Below.setCell ?_ (by simp) _ | refine Below.alloc ?_ (by simp) _)⟩
  by_cases h1 : k = 1
  · subst h1
    go_enter Try.func11, Try.ntmps11
    go_wp2
    go_ret
    exact ⟨_, rfl, fun _ => rfl, by repeat (first | exact Below.refl _ _ | refine Below.drew ?_ | refine Below.setCell ?_ (by simp) _ | refine Below.alloc ?_ (by simp) _)⟩
  by_cases h2 : k = 2
  · subst h2
    go_enter Try.func11, Try.ntmps11
    go_wp2
    go_ret
    exact ⟨_, rfl, fun _ => rfl, by repeat (first | exact Below.refl _ _ | refine Below.drew ?_ | refine Below.setCell ?_ (by simp) _ | refine Below.alloc ?_ (by simp) _)⟩
  by_cases h3 : k = 3
  · subst h3
    go_enter Try.func11, Try.ntmps11
    go_wp2
    go_ret
    exact ⟨_, rfl, fun _ => rfl, by repeat (first | exact Below.refl _ _ | refine Below.drew ?_ | refine Below.setCell ?_ (by simp) _ | refine Below.alloc ?_ (by simp) _)⟩
  by_cases h4 : k = 4
  · subst h4
    go_enter Try.func11, Try.ntmps11
    go_wp2
    go_ret
    exact ⟨_, rfl, fun _ => rfl, by repeat (first | exact Below.refl _ _ | refine Below.drew ?_ | refine Below.setCell ?_ (by simp) _ | refine Below.alloc ?_ (by simp) _)⟩
  by_cases h5 : k = 5
  · subst h5
    go_enter Try.func11, Try.ntmps11
    go_wp2
    go_ret
    exact ⟨_, rfl, fun _ => rfl, by repeat (first | exact Below.refl _ _ | refine Below.drew ?_ | refine Below.setCell ?_ (by simp) _ | refine Below.alloc ?_ (by simp) _)⟩
  have H : ¬ k ≤ 5 := by omega
  have b0 : (k == 0) = false := by simpa using h0
  have b1 : (k == 1) = false := by simpa using h1
  have b2 : (k == 2) = false := by simpa using h2
  have b3 : (k == 3) = false := by simpa using h3
  have b4 : (k == 4) = false := by simpa using h4
  have b5 : (k == 5) = false := by simpa using h5
  have HH := Lib.hid H
  clear h0 h1 h2 h3 h4 h5 H
  go_enter Try.func11, Try.ntmps11
  go_wp2
  refine bodyPost_ret (results_none rfl _ _ _) rfl ?_
  go_wp2
  go_ret
  exact ⟨_, rfl, fun h => by have := HH.out; omega, by repeat (first | exact Below.refl _ _ | refine Below.drew ?_ | refine Below.setCell ?_ (by simp) _ | refine Below.alloc ?_ (by simp) _)⟩

set_option maxHeartbeats 400000 in
theorem at_nil (i : Int) (w : World) :
    Calls Try.prog 36 #[.pointer none, .int .i64 i] w fun e w' => e = .returned (.agg #[.bool false, .slice none 0 0, .int .i64 0]) ∧ w.alloc (.cells #[.bool false, .slice none 0 0, .int .i64 0] 54) = w' := by
  go_enter Try.func36, Try.ntmps36
  go_wp2
  exact bodyPost_ret (v := .agg #[.bool false, .slice none 0 0, .int .i64 0]) (by simp [results, Try.results36, go_sem]) rfl ⟨rfl, rfl⟩
set_option maxHeartbeats 400000 in
theorem size_nil (i : Int) (w : World) :
    Calls Try.prog 24 #[.pointer none, .int .i64 i] w fun e w' => e = .returned (.int .i64 0) ∧ w.alloc (.cells #[.bool false, .slice none 0 0, .int .i64 0] 54) = w' := by
  have hfl : ∀ W : World, (Instr.field 54 (.agg #[.bool false, .slice none 0 0, .int .i64 0]) 1).run Try.prog W = .ok (.slice none 0 0) W := fun W =>
    run_field_one (P := Try.prog) W 54 _ 1 _ _ _ _ Try.underlying54 rfl Try.underlying31 rfl rfl
  go_enter Try.func24, Try.ntmps24
  go_wp2_with (go_at_call 36; refine (at_nil i w).mono ?_; rintro e w' ⟨rfl, rfl⟩)
  go_ret
  exact ⟨rfl, rfl⟩
set_option maxHeartbeats 400000 in
theorem safe_nil (i : Int) (w : World) :
    Calls Try.prog 19 #[.pointer none, .int .i64 i] w fun e w' => e = .returned (.int .i64 0) ∧ w.alloc (.cells #[.bool false, .slice none 0 0, .int .i64 0] 54) = w' := by
  have hfl : ∀ W : World, (Instr.field 54 (.agg #[.bool false, .slice none 0 0, .int .i64 0]) 2).run Try.prog W = .ok (.int .i64 0) W := fun W =>
    run_field_one (P := Try.prog) W 54 _ 2 _ _ _ _ Try.underlying54 rfl Try.underlying3 rfl rfl
  go_enter Try.func19, Try.ntmps19
  go_wp2_with (go_at_call 36; refine (at_nil i w).mono ?_; rintro e w' ⟨rfl, rfl⟩)
  go_ret
  exact ⟨rfl, rfl⟩
set_option maxHeartbeats 400000 in
theorem has_nil (i : Int) (w : World) :
    Calls Try.prog 23 #[.pointer none, .int .i64 i] w fun e w' => e = .returned (.bool false) ∧ w.alloc (.cells #[.bool false, .slice none 0 0, .int .i64 0] 54) = w' := by
  have hfl : ∀ W : World, (Instr.field 54 (.agg #[.bool false, .slice none 0 0, .int .i64 0]) 0).run Try.prog W = .ok (.bool false) W := fun W =>
    run_field_one (P := Try.prog) W 54 _ 0 _ _ _ _ Try.underlying54 rfl Try.underlying4 rfl rfl
  go_enter Try.func23, Try.ntmps23
  go_wp2_with (go_at_call 36; refine (at_nil i w).mono ?_; rintro e w' ⟨rfl, rfl⟩)
  go_ret
  exact ⟨rfl, rfl⟩

set_option maxHeartbeats 1600000 in
theorem nil_law (k A B k0 k1 k2 k3 k4 k5 k6 k7 : Int) (a : Option Addr) (len cap : Nat) (w : World) (hk : 0 ≤ k) :
    Calls Try.prog 6 #[.agg #[.int .u8 k, .int .i64 A, .int .i64 B, .slice a len cap, .int .i64 k0, .int .i64 k1, .int .i64 k2, .int .i64 k3, .int .i64 k4, .int .i64 k5, .int .i64 k6, .int .i64 k7]] w
      fun e w' => e = .returned (.bool true) ∧ Below w.heap.size w w' := by
  go_enter Try.func6, Try.ntmps6
  go_wp2_with fail
  refine (awake_any _).mono ?_
  rintro e w1 ⟨rfl, b1⟩
  have hlt : w.heap.size < w1.heap.size := by have := b1.size; simp at this; omega
  have x0 : w1.cell? ⟨w.heap.size, 0, none⟩ = some (.int .u8 k) := by rw [b1.cell (by simp)]; simp
  have x1 : w1.cell? ⟨w.heap.size, 1, none⟩ = some (.int .i64 A) := by rw [b1.cell (by simp)]; simp
  have x2 : w1.cell? ⟨w.heap.size, 2, none⟩ = some (.int .i64 B) := by rw [b1.cell (by simp)]; simp
  have x3 : w1.cell? ⟨w.heap.size, 3, none⟩ = some (.slice a len cap) := by rw [b1.cell (by simp)]; simp
  have x4 : w1.cell? ⟨w.heap.size, 4, none⟩ = some (.int .i64 k0) := by rw [b1.cell (by simp)]; simp
  have x5 : w1.cell? ⟨w.heap.size, 5, none⟩ = some (.int .i64 k1) := by rw [b1.cell (by simp)]; simp
  have x6 : w1.cell? ⟨w.heap.size, 6, none⟩ = some (.int .i64 k2) := by rw [b1.cell (by simp)]; simp
  have x7 : w1.cell? ⟨w.heap.size, 7, none⟩ = some (.int .i64 k3) := by rw [b1.cell (by simp)]; simp
  have x8 : w1.cell? ⟨w.heap.size, 8, none⟩ = some (.int .i64 k4) := by rw [b1.cell (by simp)]; simp
  have x9 : w1.cell? ⟨w.heap.size, 9, none⟩ = some (.int .i64 k5) := by rw [b1.cell (by simp)]; simp
  have x10 : w1.cell? ⟨w.heap.size, 10, none⟩ = some (.int .i64 k6) := by rw [b1.cell (by simp)]; simp
  have x11 : w1.cell? ⟨w.heap.size, 11, none⟩ = some (.int .i64 k7) := by rw [b1.cell (by simp)]; simp
  have B1 : Below w.heap.size w w1 := ((Below.refl _ _).alloc (Nat.le_refl _) _).trans (b1.mono (by simp))
  clear b1
  go_wp2_with fail
  refine (do_nil k A B k0 k1 k2 k3 k4 k5 k6 k7 a len cap w1 hk).mono ?_
  rintro e w2 ⟨n, rfl, hn, b2⟩
  have y0 : w2.cell? ⟨w.heap.size, 0, none⟩ = some (.int .u8 k) := (b2.cell (p := ⟨_, _, none⟩) hlt).trans x0
  have y1 : w2.cell? ⟨w.heap.size, 1, none⟩ = some (.int .i64 A) := (b2.cell (p := ⟨_, _, none⟩) hlt).trans x1
  have hlt2 : w.heap.size < w2.heap.size := Nat.lt_of_lt_of_le hlt b2.size
  have B2 : Below w.heap.size w w2 := B1.trans (b2.mono B1.size)
  have hlt3 : w.heap.size < w2.heap.size + 1 := by omega
  have hlt4 : w.heap.size < w2.heap.size + 1 + 1 := by omega
  have hlt5 : w.heap.size < w2.heap.size + 1 + 1 + 1 := by omega
  have hlt6 : w.heap.size < w2.heap.size + 1 + 1 + 1 + 1 := by omega
  clear b2 B1 x0 x1 x2 x3 x4 x5 x6 x7 x8 x9 x10 x11 hlt
  by_cases h5 : k ≤ 5
  · obtain rfl := hn h5
    clear hn
    go_wp2_with (first
      | (go_at_call 23; refine (has_nil _ _).mono ?_; rintro e w' ⟨rfl, rfl⟩)
      | (go_at_call 24; refine (size_nil _ _).mono ?_; rintro e w' ⟨rfl, rfl⟩)
      | (go_at_call 19; refine (safe_nil _ _).mono ?_; rintro e w' ⟨rfl, rfl⟩)
      | go_in)
    go_ret
    exact ⟨rfl, by repeat (first | exact B2 | refine Below.drew ?_ | refine Below.alloc ?_ (by first | omega | (simp; done) | (simp; omega)) _)⟩
  · have h6 : 5 < k := by omega
    clear hn h5
    go_wp2_with (first
      | (go_at_call 23; refine (has_nil _ _).mono ?_; rintro e w' ⟨rfl, rfl⟩)
      | (go_at_call 24; refine (size_nil _ _).mono ?_; rintro e w' ⟨rfl, rfl⟩)
      | (go_at_call 19; refine (safe_nil _ _).mono ?_; rintro e w' ⟨rfl, rfl⟩)
      | go_in)
    go_ret
    exact ⟨rfl, by repeat (first | exact B2 | refine Below.drew ?_ | refine Below.alloc ?_ (by first | omega | (simp; done) | (simp; omega)) _)⟩

theorem nil_contract (W : World) (args : Array Value) (h : Each Try.prog W Try.f6.params.toList args.toList) :
    Calls Try.prog 6 args W fun e W' => e = .returned (.bool true) ∧ Below W.heap.size W W' := by
  rw [Try.params6] at h
  obtain ⟨v, hv, ⟨base, hok⟩, hr⟩ := each_one h
  obtain ⟨args⟩ := args
  obtain rfl : args = [v] := hv
  obtain ⟨k, A, B, a, xs, cap, k0, k1, k2, k3, k4, k5, k6, k7, ha⟩ := rd_act hr
  have e : v = .agg #[.int .u8 k, .int .i64 A, .int .i64 B, .slice a xs.length cap, .int .i64 k0, .int .i64 k1, .int .i64 k2, .int .i64 k3, .int .i64 k4, .int .i64 k5, .int .i64 k6, .int .i64 k7] := by
    rw [act_value hok]
    congr 1
    apply Array.toList_inj.1
    exact ha.cells
  subst e
  exact nil_law k A B k0 k1 k2 k3 k4 k5 k6 k7 a xs.length cap W ha.kind.1

theorem own : ownKnob Try.prog.godebug = none := by kernel_rfl
theorem laidOut : laidOutB Try.prog = true := by kernel_rfl

set_option maxRecDepth 100000 in
theorem nil_lifted (os : Os) (started : os.Started) (H : Type) (enc : TypeId × Value → H) :
    ReturnsInHanded {} Try.checked os 6 .any (Rows.diskNilSpec.pre6 enc Try.prog Try.f6 Rows.diskNilRow.domain false) (Rows.diskNilSpec.post enc Try.prog Try.f6 false true false false) :=
  law_lifted (C := Try.checked) own laidOut (by kernel_rfl) Try.func6 rfl (tb := 4) rfl Try.underlying4
    (by rw [Try.params6]; intro t ht; simp at ht; subst ht; exact ⟨by kernel_rfl, of_decide_eq_true (by kernel_rfl)⟩)
    (fun H ds hl => by
      rw [Try.params6] at hl
      match ds, hl with
      | [d], _ => rfl)
    os started H enc
    (ChangeSpec.witness6 (enc := enc) (C := Try.checked) false ⟨#[], #[.agg #[.int .u8 0, .int .i64 0, .int .i64 0, .slice none 0 0, .int .i64 0, .int .i64 0, .int .i64 0, .int .i64 0, .int .i64 0, .int .i64 0, .int .i64 0, .int .i64 0]], []⟩ 8 (by kernel_rfl) (by kernel_rfl) (by kernel_rfl) (by kernel_rfl))
    nil_contract

theorem diskNil_holds : Rows.DiskNilSaid :=
  OpenClaim.holds_of_wide 6 Try.f6 rfl rfl rfl rfl rfl rfl rfl ⟨rfl, rfl, rfl, rfl, rfl⟩ rfl rfl rfl rfl rfl (by kernel_rfl) Try.func6 (by kernel_rfl)
    (of_decide_eq_true (by kernel_rfl)) (by unfold Func.isWrapper; first | (rw [if_pos (by decide +kernel)]; kernel_rfl) | (rw [if_neg (by decide +kernel)]; exact ⟨rfl, rfl⟩))
    (fun os started H enc _ => nil_lifted os started H enc)
#print axioms diskNil_holds
end Go.Proofs.Ytdoaaambimkdkaa
