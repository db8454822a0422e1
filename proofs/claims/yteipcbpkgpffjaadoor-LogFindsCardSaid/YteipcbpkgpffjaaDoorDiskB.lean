/-
  The disk of package disk: what is told of a file, and the room. Conditions: those of each theorem ('DiskAt': the pointer leads to a disk that holds D).
-/
import Derived.Test.YteipcbpkgpffjaaDoorDisk
import Derived.Test.YteipcbpkgpffjaaDoorOps
namespace Go.Proofs.YteipcbpkgpffjaaDoor
open Go.RowKit
set_option maxRecDepth 100000

set_option maxHeartbeats 400000 in
theorem at_in (p i : Nat) (w : World) (b : Bool) (a : Option Addr) (n c : Nat) (s : Int) (hi : i < 8) (h0 : w.cell? ⟨p, 1 + i * 3, none⟩ = some (.bool b)) (h1 : w.cell? ⟨p, 1 + i * 3 + 1, none⟩ = some (.slice a n c)) (h2 : w.cell? ⟨p, 1 + i * 3 + 2, none⟩ = some (.int .i64 s)) :
    Calls Tryd.prog 53 #[.pointer (some ⟨p, 0, none⟩), .int .i64 (i : Int)] w fun e w' => e = .returned (.agg #[.bool b, .slice a n c, .int .i64 s]) ∧ Below w.heap.size w w' := by
  have hp : p < w.heap.size := World.block_lt_of_cell? _ _ h0
  have hd : decide ((i : Int) < 8) = true := by simp; omega
  go_enter Tryd.func53, Tryd.ntmps53
  go_wp2
  exact bodyPost_ret (v := .agg #[.bool b, .slice a n c, .int .i64 s]) (by simp [results, Tryd.results53, go_sem]) rfl ⟨rfl, by repeat (first | exact Below.refl _ _ | refine Below.drew ?_ | refine Below.setCell ?_ (by simp) _ | refine Below.alloc ?_ (by simp) _)⟩

theorem DiskAt.at {w : World} {p : Nat} {S : Nat → Prop} {V : Nat → Value} {D : DM} (h : DiskAt w p S V D) (i : Nat) (hi : i < 8) :
    ∃ a c, V i = .slice a (D.f i).b.length c ∧ Calls Tryd.prog 53 #[.pointer (some ⟨p, 0, none⟩), .int .i64 (i : Int)] w fun e w' =>
      e = .returned (.agg #[.bool (D.f i).has, .slice a (D.f i).b.length c, .int .i64 ((D.f i).safe : Int)]) ∧ Below w.heap.size w w' := by
  obtain ⟨a, c, hv⟩ := h.slice i hi
  have hx := h.val i hi
  rw [hv] at hx
  exact ⟨a, c, hv, at_in p i w _ a _ c _ hi (h.has i hi) hx (h.safe i hi)⟩

set_option maxHeartbeats 400000 in
theorem size_in {w : World} {p : Nat} {S : Nat → Prop} {V : Nat → Value} {D : DM} (h : DiskAt w p S V D) (i : Nat) (hi : i < 8) :
    Calls Tryd.prog 26 #[.pointer (some ⟨p, 0, none⟩), .int .i64 (i : Int)] w fun e w' => e = .returned (.int .i64 ((D.f i).b.length : Int)) ∧ Below w.heap.size w w' := by
  obtain ⟨a, c, _, hc⟩ := h.at i hi
  have HC := Lib.hid hc
  clear hc
  have hfl : ∀ W : World, (Instr.field 58 (.agg #[.bool (D.f i).has, .slice a (D.f i).b.length c, .int .i64 ((D.f i).safe : Int)]) 1).run Tryd.prog W = .ok (.slice a (D.f i).b.length c) W := fun W =>
    run_field_one (P := Tryd.prog) W 58 _ 1 _ _ _ _ Tryd.underlying58 rfl Tryd.underlying22 rfl rfl
  go_enter Tryd.func26, Tryd.ntmps26
  go_wp2_with (go_at_call 53; refine HC.out.mono ?_; rintro e w' ⟨rfl, hb⟩)
  go_ret
  exact ⟨rfl, hb⟩
set_option maxHeartbeats 400000 in
theorem safe_in {w : World} {p : Nat} {S : Nat → Prop} {V : Nat → Value} {D : DM} (h : DiskAt w p S V D) (i : Nat) (hi : i < 8) :
    Calls Tryd.prog 29 #[.pointer (some ⟨p, 0, none⟩), .int .i64 (i : Int)] w fun e w' => e = .returned (.int .i64 ((D.f i).safe : Int)) ∧ Below w.heap.size w w' := by
  obtain ⟨a, c, _, hc⟩ := h.at i hi
  have HC := Lib.hid hc
  clear hc
  have hfl : ∀ W : World, (Instr.field 58 (.agg #[.bool (D.f i).has, .slice a (D.f i).b.length c, .int .i64 ((D.f i).safe : Int)]) 2).run Tryd.prog W = .ok (.int .i64 ((D.f i).safe : Int)) W := fun W =>
    run_field_one (P := Tryd.prog) W 58 _ 2 _ _ _ _ Tryd.underlying58 rfl Tryd.underlying3 rfl rfl
  go_enter Tryd.func29, Tryd.ntmps29
  go_wp2_with (go_at_call 53; refine HC.out.mono ?_; rintro e w' ⟨rfl, hb⟩)
  go_ret
  exact ⟨rfl, hb⟩
set_option maxHeartbeats 400000 in
theorem has_in {w : World} {p : Nat} {S : Nat → Prop} {V : Nat → Value} {D : DM} (h : DiskAt w p S V D) (i : Nat) (hi : i < 8) :
    Calls Tryd.prog 30 #[.pointer (some ⟨p, 0, none⟩), .int .i64 (i : Int)] w fun e w' => e = .returned (.bool (D.f i).has) ∧ Below w.heap.size w w' := by
  obtain ⟨a, c, _, hc⟩ := h.at i hi
  have HC := Lib.hid hc
  clear hc
  have hfl : ∀ W : World, (Instr.field 58 (.agg #[.bool (D.f i).has, .slice a (D.f i).b.length c, .int .i64 ((D.f i).safe : Int)]) 0).run Tryd.prog W = .ok (.bool (D.f i).has) W := fun W =>
    run_field_one (P := Tryd.prog) W 58 _ 0 _ _ _ _ Tryd.underlying58 rfl Tryd.underlying4 rfl rfl
  go_enter Tryd.func30, Tryd.ntmps30
  go_wp2_with (go_at_call 53; refine HC.out.mono ?_; rintro e w' ⟨rfl, hb⟩)
  go_ret
  exact ⟨rfl, hb⟩
set_option maxHeartbeats 400000 in
theorem lost_in {w : World} {p : Nat} {b : Bool} (h : w.cell? ⟨p, 27, none⟩ = some (.bool b)) :
    Calls Tryd.prog 18 #[.pointer (some ⟨p, 0, none⟩)] w fun e w' => e = .returned (.bool b) ∧ w = w' := by
  go_enter Tryd.func18, Tryd.ntmps18
  go_wp2
  go_ret
  exact ⟨rfl, rfl⟩

theorem DiskAt.cells {w : World} {p : Nat} {S : Nat → Prop} {V : Nat → Value} {D : DM} (h : DiskAt w p S V D) :
    ∃ cs : Array Value, cs.size = 24 ∧ (∀ j v, cs[j]? = some v → w.cell? ⟨p, 1 + j, none⟩ = some v) ∧
      ∀ i, i < 8 → cs[i * 3]? = some (.bool (D.f i).has) ∧ cs[i * 3 + 1]? = some (V i) ∧ cs[i * 3 + 2]? = some (.int .i64 ((D.f i).safe : Int)) := by
  obtain ⟨cur, hc, hs⟩ := h.blk
  have key : ∀ j, j < 24 → (cur.extract 1 25)[j]? = w.cell? ⟨p, 1 + j, none⟩ := by
    intro j hj
    rw [cell_of_row w p (1 + j) cur _ _ hc, Array.getElem?_extract, if_pos (by omega)]
  refine ⟨cur.extract 1 25, by simp [hs], fun j v hj => ?_, fun i hi => ⟨?_, ?_, ?_⟩⟩
  · rw [← key j (by have := (Array.getElem?_eq_some_iff.1 hj).1; simp [hs] at this; omega)]; exact hj
  · rw [key _ (by omega)]; exact h.has i hi
  · rw [key _ (by omega)]; exact h.val i hi
  · rw [key _ (by omega)]; exact h.safe i hi

theorem DM.used_mono (D : DM) : ∀ n k, k ≤ n → D.used k ≤ D.used n := by
  intro n
  induction n with
  | zero => intro k hk; obtain rfl : k = 0 := by omega
            exact Nat.le_refl _
  | succ n ih =>
    intro k hk
    by_cases h : k = n + 1
    · subst h; exact Nat.le_refl _
    · exact Nat.le_trans (ih k (by omega)) (by simp [DM.used])

set_option maxHeartbeats 1000000 in
theorem room_in {w : World} {p : Nat} {S : Nat → Prop} {V : Nat → Value} {D : DM} (h : DiskAt w p S V D) :
    Calls Tryd.prog 27 #[.pointer (some ⟨p, 0, none⟩)] w fun e w' => e = .returned (.int .i64 ((D.cap : Int) - D.used 8)) ∧ Below w.heap.size w w' := by
  obtain ⟨cs, hsz, hcs, hat⟩ := h.cells
  have hi : (Tryd.prog.info? 59).map (·.size) = some cs.size := by rw [hsz]; kernel_rfl
  have hcap := h.ok.cap
  have hus := h.ok.used
  have hsl := h.slice
  have hc0 := h.c0
  have hmono := fun k => D.used_mono 8 k
  clear h hsz
  generalize D.cap = cap at *
  go_enter Tryd.func27, Tryd.ntmps27
  go_wp2_with (refine wpList_load_cells rfl 59 _ rfl p 1 rfl cs _ hcs Tryd.underlying59 rfl hi ?_)
  go_loopw [3, 5, 16] (fun r _ i wr => ∃ k : Nat, k ≤ 8 ∧ i = .int .i64 k ∧ r = .int .i64 ((cap : Int) - D.used k) ∧ Below w.heap.size w wr) (fun _ _ i _ => 8 - (intOf i).toNat)
  case atStart => exact ⟨0, by omega, rfl, by simp [DM.used], Below.refl _ _⟩
  case round =>
    obtain ⟨k, hk, rfl, rfl, hb⟩ := hrel
    have hm0 := hmono k hk
    by_cases hlt : k < 8
    · have hm1 := hmono (k + 1) (by omega)
      obtain ⟨x0, x1, x2⟩ := hat k hlt
      obtain ⟨a, c, hv⟩ := hsl k hlt
      rw [hv] at x1
      have hus1 : D.used (k + 1) = D.used k + (D.f k).b.length := rfl
      have HU := Lib.hid hus1
      rw [hus1] at hm1
      clear hus1 hcs hat hsl hmono hv hi hc0
      have hidx : ∀ W : World, (Instr.index 59 (.agg cs) (.int .i64 (k : Int))).run Tryd.prog W = .ok (.agg #[.bool (D.f k).has, .slice a (D.f k).b.length c, .int .i64 ((D.f k).safe : Int)]) W := by
        intro W
        rw [run_index_agg (P := Tryd.prog) W 59 58 8 3 _ cs .i64 k hlt Tryd.underlying59 Tryd.underlying58 rfl (by kernel_rfl), extract3 x0 x1 x2]
      clear x0 x1 x2
      generalize (D.f k).b.length = n at *
      generalize D.used k = u at *
      go_wp2
      go_roundw
      case rel => exact ⟨k + 1, by omega, by go_num, by rw [HU.out]; go_num, by repeat (first | exact hb | refine Below.drew ?_ | refine Below.setCell ?_ (by have := hb.size; simp; omega) _ | refine Below.alloc ?_ (by have := hb.size; simp; omega) _)⟩
      case measure => simp [intOf]; omega
    · obtain rfl : k = 8 := by omega
      clear hcs hat hsl hmono hi hc0
      go_wp2
      go_ret
      exact ⟨rfl, hb⟩
end Go.Proofs.YteipcbpkgpffjaaDoor
