import Derived.Test.YtljoalihioflmaaDiskH
import Derived.Test.YtljoalihioflmaaRefE
import Derived.Test.YtljoalihioflmaaDiskF
import Derived.Deep.RegionHeld3
namespace Go.Proofs.Ytljoalihioflmaa
open Go.RowKit
set_option maxRecDepth 100000
theorem room_over {w w' : World} {p : Nat} {S : Nat → Prop} {V : Nat → Value} {D : DM} (h : DiskAt w p S V D) (hb : Below w.heap.size w w') :
    Calls Try.prog 29 #[.pointer (some ⟨p, 0, none⟩)] w' fun e w2 => e = .returned (.int .i64 ((D.cap : Int) - D.used 8)) ∧ Below w.heap.size w w2 :=
  (room_in (h.below hb)).mono fun _ _ x => ⟨x.1, hb.trans (x.2.mono hb.size)⟩

theorem has_over {w w' : World} {p : Nat} {S : Nat → Prop} {V : Nat → Value} {D : DM} (h : DiskAt w p S V D) (k : Nat) (hk : k < 8) (hb : Below w.heap.size w w') :
    Calls Try.prog 27 #[.pointer (some ⟨p, 0, none⟩), .int .i64 (k : Int)] w' fun e w2 => e = .returned (.bool (D.f k).has) ∧ Below w.heap.size w w2 :=
  (has_in (h.below hb) k hk).mono fun _ _ x => ⟨x.1, hb.trans (x.2.mono hb.size)⟩
theorem size_over {w w' : World} {p : Nat} {S : Nat → Prop} {V : Nat → Value} {D : DM} (h : DiskAt w p S V D) (k : Nat) (hk : k < 8) (hb : Below w.heap.size w w') :
    Calls Try.prog 28 #[.pointer (some ⟨p, 0, none⟩), .int .i64 (k : Int)] w' fun e w2 => e = .returned (.int .i64 ((D.f k).b.length : Int)) ∧ Below w.heap.size w w2 :=
  (size_in (h.below hb) k hk).mono fun _ _ x => ⟨x.1, hb.trans (x.2.mono hb.size)⟩
theorem safe_over {w w' : World} {p : Nat} {S : Nat → Prop} {V : Nat → Value} {D : DM} (h : DiskAt w p S V D) (k : Nat) (hk : k < 8) (hb : Below w.heap.size w w') :
    Calls Try.prog 23 #[.pointer (some ⟨p, 0, none⟩), .int .i64 (k : Int)] w' fun e w2 => e = .returned (.int .i64 ((D.f k).safe : Int)) ∧ Below w.heap.size w w2 :=
  (safe_in (h.below hb) k hk).mono fun _ _ x => ⟨x.1, hb.trans (x.2.mono hb.size)⟩

set_option maxHeartbeats 4000000 in
theorem same_in {w : World} {p q : Nat} {S T : Nat → Prop} {V U : Nat → Value} {D : DM} (h : DiskAt w p S V D) (r : RefAt w q T U D) :
    Calls Try.prog 18 #[.pointer (some ⟨p, 0, none⟩), .pointer (some ⟨q, 0, none⟩)] w fun e w' => e = .returned (.bool true) ∧ Below w.heap.size w w' := by
  have r26 := r.c26
  go_enter Try.func18, Try.ntmps18
  go_wp2_with fail
  have hb0 : Below w.heap.size w w := Below.refl _ _
  have hq := r.lt q r.own
  go_region_held3 (fun w' => Below w.heap.size w w' ∧ w'.cell? ⟨q, 26, none⟩ = some (.bool D.lost))
    (refine ⟨?_, (Below.cell (p := ⟨q, 26, none⟩) (B := w.heap.size) ?_ hq).trans r26⟩ <;> (first | assumption | exact Below.drew (by assumption)))
    (first
      | (go_at_call 29; refine Calls.mono (room_over h ?_) ?_; (first | assumption | exact Below.drew (by assumption)); rintro e w2 ⟨rfl, b2⟩)
      | (go_at_call 54; refine Calls.mono (rroom_in (r.below ?_)) ?_; (first | assumption | exact Below.drew (by assumption)); rintro e w2 ⟨rfl, rfl⟩)
      | (go_at_call 30; refine Calls.mono (lost_in (h.below ?_).c27) ?_; (first | assumption | exact Below.drew (by assumption)); rintro e w2 ⟨rfl, rfl⟩))
  all_goals go_wp2_with fail
  have hb2 : Below w.heap.size w w2 := by assumption
  go_loopw [4, 5, 6, 7, 22] (fun _ _ _ _ i wr => ∃ k : Nat, k ≤ 8 ∧ i = .int .i64 k ∧ Below w.heap.size w wr) (fun _ _ _ _ i _ => 8 - (intOf i).toNat)
  case atStart => exact ⟨0, by omega, rfl, hb2⟩
  case round =>
    clear hb2
    obtain ⟨k, hk, rfl, hb3⟩ := hrel
    by_cases hlt : k < 8
    · have x0 := r.has k hlt
      obtain ⟨a, c, hv, hc1, hc2, hc3⟩ := r.slice' k hlt
      have x1 := r.val k hlt
      rw [hv] at x1
      have x2 := r.safe k hlt
      have y0 := (hb3.cell (p := ⟨q, 1 + k * 3, none⟩) hq).trans x0
      have y1 := (hb3.cell (p := ⟨q, 1 + k * 3 + 1, none⟩) hq).trans x1
      have y2 := (hb3.cell (p := ⟨q, 1 + k * 3 + 2, none⟩) hq).trans x2
      have y6 := (hb3.cell (p := ⟨q, 26, none⟩) hq).trans r26
      have hlt8 : (k : Int) < 8 := by omega
      have hk0 : (0 : Int) ≤ (k : Int) := by omega
      go_wp2_with fail
      go_region_held3 (fun w' => Below w.heap.size w w' ∧ w'.cell? ⟨q, 1 + k * 3, none⟩ = some (.bool (D.f k).has) ∧ w'.cell? ⟨q, 1 + k * 3 + 1, none⟩ = some (.slice a (D.f k).b.length c) ∧ w'.cell? ⟨q, 1 + k * 3 + 2, none⟩ = some (.int .i64 ((D.f k).safe : Int)))
        (refine ⟨?_, (Below.cell (p := ⟨q, 1 + k * 3, none⟩) (B := w.heap.size) ?_ hq).trans x0, (Below.cell (p := ⟨q, 1 + k * 3 + 1, none⟩) (B := w.heap.size) ?_ hq).trans x1, (Below.cell (p := ⟨q, 1 + k * 3 + 2, none⟩) (B := w.heap.size) ?_ hq).trans x2⟩ <;> (first | assumption | exact Below.drew (by assumption)))
        (first
          | (go_at_call 27; refine Calls.mono (has_over h k hlt ?_) ?_; (first | assumption | exact Below.drew (by assumption)); rintro e w3 ⟨rfl, b3⟩)
          | (go_at_call 28; refine Calls.mono (size_over h k hlt ?_) ?_; (first | assumption | exact Below.drew (by assumption)); rintro e w3 ⟨rfl, b3⟩)
          | (go_at_call 23; refine Calls.mono (safe_over h k hlt ?_) ?_; (first | assumption | exact Below.drew (by assumption)); rintro e w3 ⟨rfl, b3⟩))
      all_goals
        go_wp2_with fail
        have hb9 : Below w.heap.size w w3 := by assumption
        refine (read_in (h.below hb9) (k : Int)).mono ?_
        rintro e w4 ⟨⟨a4, n4, c4, ys, rfl, hn4, hy4, hc4, hcm4, hnil4, heq4⟩, b4⟩
        have hb4 : Below w.heap.size w w4 := hb9.trans (b4.mono hb9.size)
        have z0 := (hb4.cell (p := ⟨q, 1 + k * 3, none⟩) hq).trans x0
        have z1 := (hb4.cell (p := ⟨q, 1 + k * 3 + 1, none⟩) hq).trans x1
        have z6 := (hb4.cell (p := ⟨q, 26, none⟩) hq).trans r26
        have hin : inRange (k : Int) = true := by simp [inRange]; omega
        by_cases hl : D.lost = true
        · have hpr : D.prs k = 6 := by simp [DM.prs, hl]
          rw [hpr]
          rw [hl] at z6
          have HL := Lib.hid hl
          have HP := Lib.hid hpr
          clear hl hpr heq4
          go_wp2_with fail
          go_roundw
          case rel => exact ⟨k + 1, by omega, by go_num, hb4⟩
          case measure => simp [intOf]; omega
        · have hl' : D.lost = false := by simpa using hl
          rw [hl'] at z6
          have HL := Lib.hid hl'
          clear hl
          by_cases hh : (D.f k).has = true
          · have hpr : D.prs k = 0 := by simp [DM.prs, hl', hin, hh]
            obtain rfl := heq4 hpr
            rw [hpr]
            rw [hh] at z0
            have HH := Lib.hid hh
            clear hh hl' hpr heq4
            have hbr : IsBytes w4 a (D.f k).b := by
              obtain ⟨a2, c2, hv2, hby2, _⟩ := (r.below hb4).bytes k hlt
              rw [hv] at hv2
              injection hv2 with e2
              rw [e2]; exact hby2
            have hlm : (D.f k).b.length ≤ maxLen := by omega
            go_wp2_with fail
            refine (bytes_any a4 a n4 (D.f k).b.length c4 c (D.f k).b (D.f k).b w4 hn4 rfl hy4 hbr (by omega) hlm).mono ?_
            rintro e w5 ⟨rfl, b5⟩
            have hb5 : Below w.heap.size w w5 := hb4.trans (b5.mono hb4.size)
            rw [show decide ((D.f k).b = (D.f k).b) = true from by simp]
            go_wp2
            go_roundw
            case rel => exact ⟨k + 1, by omega, by go_num, hb5⟩
            case measure => simp [intOf]; omega
          · have hh' : (D.f k).has = false := by simpa using hh
            have hpr : D.prs k = 7 := by simp [DM.prs, hl', hin, hh']
            rw [hpr]
            rw [hh'] at z0
            clear hh hh' hl' hpr heq4
            go_wp2_with fail
            go_roundw
            case rel => exact ⟨k + 1, by omega, by go_num, hb4⟩
            case measure => simp [intOf]; omega
    · obtain rfl : k = 8 := by omega
      go_wp2
      go_ret
      exact ⟨rfl, hb3⟩
end Go.Proofs.Ytljoalihioflmaa
