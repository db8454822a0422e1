/-
  The reference's disk (package recoupref01): Restart. Conditions: those of each theorem ('RefAt': the pointer leads to a reference disk that holds D).
-/
import Derived.Test.YtljoalihioflmaaRefG
namespace Go.Proofs.Ytljoalihioflmaa
open Go.RowKit
set_option maxRecDepth 100000

theorem RefAt.dark {w : World} {p : Nat} {S : Nat → Prop} {V : Nat → Value} {D : DM} (h : RefAt w p S V D) :
    RefAt ((w.setCell ⟨p, 26, none⟩ (.bool false)).setCell ⟨p, 25, none⟩ (.int .i64 (-1))) p S V { D with lit := false, fuse := 0, lost := false } :=
  h.unlose.fused false 0 (-1) (by simp) (by decide)

set_option maxHeartbeats 4000000 in
theorem rrestart_in {w : World} {p : Nat} {S : Nat → Prop} {V : Nat → Value} {D : DM} (h : RefAt w p S V D) (k0 k1 k2 k3 k4 k5 k6 k7 : Int) (hk0 : ∀ i, -9223372036854775808 ≤ kp k0 k1 k2 k3 k4 k5 k6 k7 i ∧ kp k0 k1 k2 k3 k4 k5 k6 k7 i ≤ 9223372036854775807) :
    Calls Try.prog 16 #[.pointer (some ⟨p, 0, none⟩), .agg #[.int .i64 k0, .int .i64 k1, .int .i64 k2, .int .i64 k3, .int .i64 k4, .int .i64 k5, .int .i64 k6, .int .i64 k7]] w
      fun e w' => e = .returned (.tuple #[]) ∧ (∃ V' S', RefAt w' p S' V' (D.restart (kp k0 k1 k2 k3 k4 k5 k6 k7)) ∧ ∀ k, S' k → S k ∨ (w.heap.size ≤ k ∧ k < w'.heap.size)) ∧ Upd S w w' := by
  have hp := h.lt p h.own
  generalize hkp : kp k0 k1 k2 k3 k4 k5 k6 k7 = keep at *
  have HK := Lib.hid hkp
  clear hkp
  have h25 := h.c25
  have h26 := h.c26
  have f25 := h.frozen 25
  have f26 := h.frozen 26
  go_enter Try.func16, Try.ntmps16
  go_wp2_with fail
  have hks : ∀ i, i < 8 → (((w.setCell ⟨p, 26, none⟩ (.bool false)).setCell ⟨p, 25, none⟩ (.int .i64 (-1))).alloc (.cells #[.int .i64 k0, .int .i64 k1, .int .i64 k2, .int .i64 k3, .int .i64 k4, .int .i64 k5, .int .i64 k6, .int .i64 k7] 32)).cell? ⟨w.heap.size, i, none⟩ = some (.int .i64 (keep i)) := by
    intro i hi
    rw [← HK.out]
    have e0 : ((w.setCell ⟨p, 26, none⟩ (.bool false)).setCell ⟨p, 25, none⟩ (.int .i64 (-1))).heap.size = w.heap.size := by rw [setCell_size, setCell_size]
    rw [← e0]
    generalize (w.setCell ⟨p, 26, none⟩ (.bool false)).setCell ⟨p, 25, none⟩ (.int .i64 (-1)) = wb
    rcases eight hi with rfl | rfl | rfl | rfl | rfl | rfl | rfl | rfl <;> simp [kp]
  have hd0 := h.dark.below ((Below.refl _ _).alloc (Nat.le_refl _) (.cells #[.int .i64 k0, .int .i64 k1, .int .i64 k2, .int .i64 k3, .int .i64 k4, .int .i64 k5, .int .i64 k6, .int .i64 k7] 32))
  have u1 : Upd S w (((w.setCell ⟨p, 26, none⟩ (.bool false)).setCell ⟨p, 25, none⟩ (.int .i64 (-1))).alloc (.cells #[.int .i64 k0, .int .i64 k1, .int .i64 k2, .int .i64 k3, .int .i64 k4, .int .i64 k5, .int .i64 k6, .int .i64 k7] 32)) :=
    (((Upd.refl S w).setCell (p := ⟨p, 26, none⟩) (.inl h.own) _).setCell (p := ⟨p, 25, none⟩) (.inl h.own) _).alloc _
  have hsz : w.heap.size < (((w.setCell ⟨p, 26, none⟩ (.bool false)).setCell ⟨p, 25, none⟩ (.int .i64 (-1))).alloc (.cells #[.int .i64 k0, .int .i64 k1, .int .i64 k2, .int .i64 k3, .int .i64 k4, .int .i64 k5, .int .i64 k6, .int .i64 k7] 32)).heap.size := by simp
  have hS : ∀ k, S k → k < w.heap.size := h.lt
  generalize hDk : ({ D with lit := false, fuse := 0, lost := false } : DM) = Dk at *
  have hend : Dk.upto keep 8 = D.restart keep := by rw [← hDk]; rfl
  have HEND := Lib.hid hend
  have hok := hd0.ok
  clear hDk hend h25 h26 f25 f26
  generalize ((w.setCell ⟨p, 26, none⟩ (.bool false)).setCell ⟨p, 25, none⟩ (.int .i64 (-1))).alloc (.cells #[.int .i64 k0, .int .i64 k1, .int .i64 k2, .int .i64 k3, .int .i64 k4, .int .i64 k5, .int .i64 k6, .int .i64 k7] 32) = wa at *
  go_loopw [4, 5, 12] (fun _ _ i wr => ∃ k : Nat, k ≤ 8 ∧ i = .int .i64 k ∧ ∃ S' V', RefAt wr p S' V' (Dk.upto keep k) ∧ Upd S wa wr ∧ ∀ j, S' j → S j ∨ (wa.heap.size ≤ j ∧ j < wr.heap.size)) (fun _ _ i _ => 8 - (intOf i).toNat)
  case atStart => exact ⟨0, by omega, rfl, S, V, by rw [DM.upto_zero]; exact hd0, Upd.refl _ _, fun j hj => .inl hj⟩
  case round =>
    obtain ⟨k, hk, rfl, S', V', hd, hu, hin⟩ := hrel
    by_cases hlt : k < 8
    · have hown := hd.own
      have xk : wr.cell? ⟨w.heap.size, k, none⟩ = some (.int .i64 (keep k)) := (hu.cell (p := ⟨w.heap.size, k, none⟩) hsz (fun x => absurd (hS _ x) (Nat.lt_irrefl _))).trans (hks k hlt)
      have hkk := hk0 k
      clear hks
      obtain ⟨a, c, hv, hby, hc1, hc2, hnc⟩ := hd.bytes k hlt
      have x0 := hd.has k hlt
      have x1 := hd.val k hlt
      have x2 := hd.safe k hlt
      have hsf := hd.ok.safe k hlt
      rw [hv] at x1
      rw [DM.upto_at] at x0 x1 x2 hby hc1 hsf
      have hlt8 : (k : Int) < 8 := by omega
      have hn63 : (Dk.f k).b.length ≤ 1048576 := by have := Dk.set_len k hlt; have := hok.used; have := hok.cap; omega
      by_cases hh : (Dk.f k).has = true
      · rw [hh] at x0
        unfold maxLen at hc2
        by_cases hgt : ((Dk.f k).b.length : Int) < keep k
        · have hleft : (Dk.f k).left (keep k) = (Dk.f k).b.length := by unfold FM.left; omega
          have hfin : (Dk.upto keep k).set k { has := true, b := (Dk.f k).b.take ((Dk.f k).b.length), safe := (Dk.f k).b.length } = Dk.upto keep (k + 1) := by rw [← DM.upto_succ, FM.restart, hleft, hh]
          have HFIN := Lib.hid hfin
          clear hleft hfin
          go_wp2_with fail
          go_quiet (fail)
          go_wp2_with fail
          go_quiet (fail)
          go_wp2_with fail

          generalize hWe : wr.drewN _ = W
          have hW : RefAt W p S' V' (Dk.upto keep k) := hWe ▸ hd.drewN _
          have uW : Upd S' wr W := hWe ▸ (Upd.refl S' wr).drewN _
          have hbW : IsBytes W a (Dk.f k).b := hWe ▸ hby.upd (S := fun _ => False) ((Upd.refl _ wr).drewN _) (fun _ _ _ x => x)
          have y1 : W.cell? ⟨p, 1 + k * 3 + 1, none⟩ = some (.slice a (Dk.f k).b.length c) := hWe ▸ x1
          have sW : W.heap.size = wr.heap.size := hWe ▸ rfl
          have SW := Lib.hid sW
          clear hWe sW x0 x1 x2 xk
          have hpW := hW.lt p hW.own
          have yA : (W.alloc (.cells #[] 5)).cell? ⟨p, 1 + k * 3 + 1, none⟩ = some (.slice a (Dk.f k).b.length c) := by rw [World.cell?_alloc_past _ _ _ hpW]; exact y1
          have happ : (Dk.f k).b.length ≤ 140737488355328 := by omega
          have hmc : (Dk.f k).b.length ≤ c := by omega
          have hmi : ((Dk.f k).b.length : Int) ≤ c := by omega
          have htl : ((Dk.f k).b.take ((Dk.f k).b.length)).length = (Dk.f k).b.length := by rw [List.length_take]; omega
          have HTL := Lib.hid htl
          clear htl
          go_region_law
            (refine step_append_new (by rfl) _ _ 31 (by rfl) Try.underlying31 u8_info (by kernel_rfl) a ((Dk.f k).b.take ((Dk.f k).b.length)) ((Dk.f k).b.length) HTL.out c (by kernel_rfl) (hbW.take ((Dk.f k).b.length)) hnc happ ?_; intro a' c' w1 hr1 hb1; have hd1 := hW.below hb1; have z0 := hd1.has k hlt; have z1 := hd1.val k hlt; have z2 := hd1.safe k hlt; have f0 := hd1.frozen (1 + k * 3); have f1 := hd1.frozen (1 + k * 3 + 1); have f2 := hd1.frozen (1 + k * 3 + 2))
          all_goals
            go_wp2
            go_roundw
            case rel =>
              obtain ⟨V2, h2, u2⟩ := hW.filed hb1 hlt (zs := (Dk.f k).b.take ((Dk.f k).b.length)) (n := (Dk.f k).b.length) HTL.out hr1 (Nat.le_refl _) (by have h9 := hW.ok.used; rw [DM.upto_at]; omega)
              rw [HFIN.out] at h2
              refine ⟨k + 1, by omega, by go_num, _, V2, by simpa using h2, hu.trans (uW.trans (by simpa using u2) (fun _ _ x => x)) (fun j hj x => (hin j x).resolve_right (by omega)), ?_⟩
              intro j hj
              have hs1 := hb1.size
              have hs2 := hu.size
              have hs3 := SW.out
              rcases hj with hj | hj
              · rcases hin j hj with h7 | h7
                · exact .inl h7
                · exact .inr ⟨h7.1, by simp; omega⟩
              · exact .inr ⟨by omega, by simp; omega⟩
            case measure => simp [intOf]; omega
        · by_cases hgt2 : ((Dk.f k).b.length : Int) < (Dk.f k).safe + max (keep k) 0
          · have hleft : (Dk.f k).left (keep k) = (Dk.f k).b.length := by unfold FM.left; omega
            have hfin : (Dk.upto keep k).set k { has := true, b := (Dk.f k).b.take ((Dk.f k).b.length), safe := (Dk.f k).b.length } = Dk.upto keep (k + 1) := by rw [← DM.upto_succ, FM.restart, hleft, hh]
            have HFIN := Lib.hid hfin
            clear hleft hfin
            go_wp2_with fail
            go_quiet (fail)
            go_wp2_with fail
            go_quiet (fail)
            go_wp2_with fail

            generalize hWe : wr.drewN _ = W
            have hW : RefAt W p S' V' (Dk.upto keep k) := hWe ▸ hd.drewN _
            have uW : Upd S' wr W := hWe ▸ (Upd.refl S' wr).drewN _
            have hbW : IsBytes W a (Dk.f k).b := hWe ▸ hby.upd (S := fun _ => False) ((Upd.refl _ wr).drewN _) (fun _ _ _ x => x)
            have y1 : W.cell? ⟨p, 1 + k * 3 + 1, none⟩ = some (.slice a (Dk.f k).b.length c) := hWe ▸ x1
            have sW : W.heap.size = wr.heap.size := hWe ▸ rfl
            have SW := Lib.hid sW
            clear hWe sW x0 x1 x2 xk
            have hpW := hW.lt p hW.own
            have yA : (W.alloc (.cells #[] 5)).cell? ⟨p, 1 + k * 3 + 1, none⟩ = some (.slice a (Dk.f k).b.length c) := by rw [World.cell?_alloc_past _ _ _ hpW]; exact y1
            have happ : (Dk.f k).b.length ≤ 140737488355328 := by omega
            have hmc : (Dk.f k).b.length ≤ c := by omega
            have hmi : ((Dk.f k).b.length : Int) ≤ c := by omega
            have htl : ((Dk.f k).b.take ((Dk.f k).b.length)).length = (Dk.f k).b.length := by rw [List.length_take]; omega
            have HTL := Lib.hid htl
            clear htl
            go_region_law
              (refine step_append_new (by rfl) _ _ 31 (by rfl) Try.underlying31 u8_info (by kernel_rfl) a ((Dk.f k).b.take ((Dk.f k).b.length)) ((Dk.f k).b.length) HTL.out c (by kernel_rfl) (hbW.take ((Dk.f k).b.length)) hnc happ ?_; intro a' c' w1 hr1 hb1; have hd1 := hW.below hb1; have z0 := hd1.has k hlt; have z1 := hd1.val k hlt; have z2 := hd1.safe k hlt; have f0 := hd1.frozen (1 + k * 3); have f1 := hd1.frozen (1 + k * 3 + 1); have f2 := hd1.frozen (1 + k * 3 + 2))
            all_goals
              go_wp2
              go_roundw
              case rel =>
                obtain ⟨V2, h2, u2⟩ := hW.filed hb1 hlt (zs := (Dk.f k).b.take ((Dk.f k).b.length)) (n := (Dk.f k).b.length) HTL.out hr1 (Nat.le_refl _) (by have h9 := hW.ok.used; rw [DM.upto_at]; omega)
                rw [HFIN.out] at h2
                refine ⟨k + 1, by omega, by go_num, _, V2, by simpa using h2, hu.trans (uW.trans (by simpa using u2) (fun _ _ x => x)) (fun j hj x => (hin j x).resolve_right (by omega)), ?_⟩
                intro j hj
                have hs1 := hb1.size
                have hs2 := hu.size
                have hs3 := SW.out
                rcases hj with hj | hj
                · rcases hin j hj with h7 | h7
                  · exact .inl h7
                  · exact .inr ⟨h7.1, by simp; omega⟩
                · exact .inr ⟨by omega, by simp; omega⟩
              case measure => simp [intOf]; omega
          · by_cases hpos : 0 ≤ keep k
            · obtain ⟨m, hm⟩ := Int.eq_ofNat_of_zero_le (show 0 ≤ ((Dk.f k).safe : Int) + keep k by omega)
              have hmle : m ≤ (Dk.f k).b.length := by omega
              have hleft : (Dk.f k).left (keep k) = m := by unfold FM.left; omega
              have hfin : (Dk.upto keep k).set k { has := true, b := (Dk.f k).b.take (m), safe := m } = Dk.upto keep (k + 1) := by rw [← DM.upto_succ, FM.restart, hleft, hh]
              have HFIN := Lib.hid hfin
              clear hleft hfin
              go_wp2_with fail
              go_quiet (fail)
              go_wp2_with fail
              go_quiet (fail)
              go_wp2_with fail
              try rw [hm]

              generalize hWe : (wr.drewN _).drewN _ = W
              have hW : RefAt W p S' V' (Dk.upto keep k) := hWe ▸ (hd.drewN _).drewN _
              have uW : Upd S' wr W := hWe ▸ ((Upd.refl S' wr).drewN _).drewN _
              have hbW : IsBytes W a (Dk.f k).b := hWe ▸ hby.upd (S := fun _ => False) (((Upd.refl _ wr).drewN _).drewN _) (fun _ _ _ x => x)
              have y1 : W.cell? ⟨p, 1 + k * 3 + 1, none⟩ = some (.slice a (Dk.f k).b.length c) := hWe ▸ x1
              have sW : W.heap.size = wr.heap.size := hWe ▸ rfl
              have SW := Lib.hid sW
              clear hWe sW x0 x1 x2 xk
              have hpW := hW.lt p hW.own
              have yA : (W.alloc (.cells #[] 5)).cell? ⟨p, 1 + k * 3 + 1, none⟩ = some (.slice a (Dk.f k).b.length c) := by rw [World.cell?_alloc_past _ _ _ hpW]; exact y1
              have happ : m ≤ 140737488355328 := by omega
              have hmc : m ≤ c := by omega
              have hmi : (m : Int) ≤ c := by omega
              have htl : ((Dk.f k).b.take (m)).length = m := by rw [List.length_take]; omega
              have HTL := Lib.hid htl
              clear htl
              go_region_law
                (refine step_append_new (by rfl) _ _ 31 (by rfl) Try.underlying31 u8_info (by kernel_rfl) a ((Dk.f k).b.take (m)) (m) HTL.out c (by kernel_rfl) (hbW.take (m)) hnc happ ?_; intro a' c' w1 hr1 hb1; have hd1 := hW.below hb1; have z0 := hd1.has k hlt; have z1 := hd1.val k hlt; have z2 := hd1.safe k hlt; have f0 := hd1.frozen (1 + k * 3); have f1 := hd1.frozen (1 + k * 3 + 1); have f2 := hd1.frozen (1 + k * 3 + 2))
              all_goals
                go_wp2
                go_roundw
                case rel =>
                  obtain ⟨V2, h2, u2⟩ := hW.filed hb1 hlt (zs := (Dk.f k).b.take (m)) (n := m) HTL.out hr1 (Nat.le_refl _) (by have h9 := hW.ok.used; rw [DM.upto_at]; omega)
                  rw [HFIN.out] at h2
                  refine ⟨k + 1, by omega, by go_num, _, V2, by simpa using h2, hu.trans (uW.trans (by simpa using u2) (fun _ _ x => x)) (fun j hj x => (hin j x).resolve_right (by omega)), ?_⟩
                  intro j hj
                  have hs1 := hb1.size
                  have hs2 := hu.size
                  have hs3 := SW.out
                  rcases hj with hj | hj
                  · rcases hin j hj with h7 | h7
                    · exact .inl h7
                    · exact .inr ⟨h7.1, by simp; omega⟩
                  · exact .inr ⟨by omega, by simp; omega⟩
                case measure => simp [intOf]; omega
            · have hleft : (Dk.f k).left (keep k) = (Dk.f k).safe := by unfold FM.left; omega
              have hfin : (Dk.upto keep k).set k { has := true, b := (Dk.f k).b.take ((Dk.f k).safe), safe := (Dk.f k).safe } = Dk.upto keep (k + 1) := by rw [← DM.upto_succ, FM.restart, hleft, hh]
              have HFIN := Lib.hid hfin
              clear hleft hfin
              go_wp2_with fail
              go_quiet (fail)
              go_wp2_with fail
              go_quiet (fail)
              go_wp2_with fail

              generalize hWe : (wr.drewN _).drewN _ = W
              have hW : RefAt W p S' V' (Dk.upto keep k) := hWe ▸ (hd.drewN _).drewN _
              have uW : Upd S' wr W := hWe ▸ ((Upd.refl S' wr).drewN _).drewN _
              have hbW : IsBytes W a (Dk.f k).b := hWe ▸ hby.upd (S := fun _ => False) (((Upd.refl _ wr).drewN _).drewN _) (fun _ _ _ x => x)
              have y1 : W.cell? ⟨p, 1 + k * 3 + 1, none⟩ = some (.slice a (Dk.f k).b.length c) := hWe ▸ x1
              have sW : W.heap.size = wr.heap.size := hWe ▸ rfl
              have SW := Lib.hid sW
              clear hWe sW x0 x1 x2 xk
              have hpW := hW.lt p hW.own
              have yA : (W.alloc (.cells #[] 5)).cell? ⟨p, 1 + k * 3 + 1, none⟩ = some (.slice a (Dk.f k).b.length c) := by rw [World.cell?_alloc_past _ _ _ hpW]; exact y1
              have happ : (Dk.f k).safe ≤ 140737488355328 := by omega
              have hmc : (Dk.f k).safe ≤ c := by omega
              have hmi : ((Dk.f k).safe : Int) ≤ c := by omega
              have htl : ((Dk.f k).b.take ((Dk.f k).safe)).length = (Dk.f k).safe := by rw [List.length_take]; omega
              have HTL := Lib.hid htl
              clear htl
              go_region_law
                (refine step_append_new (by rfl) _ _ 31 (by rfl) Try.underlying31 u8_info (by kernel_rfl) a ((Dk.f k).b.take ((Dk.f k).safe)) ((Dk.f k).safe) HTL.out c (by kernel_rfl) (hbW.take ((Dk.f k).safe)) hnc happ ?_; intro a' c' w1 hr1 hb1; have hd1 := hW.below hb1; have z0 := hd1.has k hlt; have z1 := hd1.val k hlt; have z2 := hd1.safe k hlt; have f0 := hd1.frozen (1 + k * 3); have f1 := hd1.frozen (1 + k * 3 + 1); have f2 := hd1.frozen (1 + k * 3 + 2))
              all_goals
                go_wp2
                go_roundw
                case rel =>
                  obtain ⟨V2, h2, u2⟩ := hW.filed hb1 hlt (zs := (Dk.f k).b.take ((Dk.f k).safe)) (n := (Dk.f k).safe) HTL.out hr1 (Nat.le_refl _) (by have h9 := hW.ok.used; rw [DM.upto_at]; omega)
                  rw [HFIN.out] at h2
                  refine ⟨k + 1, by omega, by go_num, _, V2, by simpa using h2, hu.trans (uW.trans (by simpa using u2) (fun _ _ x => x)) (fun j hj x => (hin j x).resolve_right (by omega)), ?_⟩
                  intro j hj
                  have hs1 := hb1.size
                  have hs2 := hu.size
                  have hs3 := SW.out
                  rcases hj with hj | hj
                  · rcases hin j hj with h7 | h7
                    · exact .inl h7
                    · exact .inr ⟨h7.1, by simp; omega⟩
                  · exact .inr ⟨by omega, by simp; omega⟩
                case measure => simp [intOf]; omega
      · have hh' : (Dk.f k).has = false := by simpa using hh
        have hsame : Dk.upto keep (k + 1) = Dk.upto keep k := by
          obtain ⟨e1, e2⟩ := hok.none k hlt hh'
          have hre : (Dk.f k).restart (keep k) = Dk.f k := by
            revert e1 e2
            rcases Dk.f k with ⟨hs, b, s⟩
            rintro rfl rfl
            simp [FM.restart, FM.left]
            omega
          unfold DM.upto
          simp only [DM.mk.injEq, true_and, and_true]
          funext i
          by_cases h1 : i = k
          · subst h1; simp [hre]
          · have h3 : i < k + 1 ↔ i < k := by omega
            simp [h3]
        rw [hh'] at x0
        go_wp2
        go_roundw
        case rel => exact ⟨k + 1, by omega, by go_num, S', V', by rw [hsame]; exact hd, hu, hin⟩
        case measure => simp [intOf]; omega
    · obtain rfl : k = 8 := by omega
      clear hks
      go_wp2
      go_end0
      refine ⟨rfl, ⟨V', S', ?_, ?_⟩, ?_⟩
      · rw [← HEND.out]; exact hd
      · intro j hj; exact (hin j hj).imp id (fun x => ⟨by omega, x.2⟩)
      · exact u1.trans hu (fun _ _ x => x)
end Go.Proofs.Ytljoalihioflmaa
