/-
  The reference's disk (package recoupref01): Act, kind 3 (Rename). Conditions: those of each theorem ('RefAt': the pointer leads to a reference disk that holds D).
-/
import Derived.Test.YtljoalihioflmaaRefD
namespace Go.Proofs.Ytljoalihioflmaa
open Go.RowKit
set_option maxRecDepth 100000

set_option maxHeartbeats 4000000 in
theorem ract_rename_bad {w : World} {p : Nat} {S : Nat → Prop} {V : Nat → Value} {D : DM} (h : RefAt w p S V D) (B : Int) (i : Nat) (v : Value) (hl : D.lost = false) (hi : i < 8) (hB : inRange B = false) :
    Calls Try.prog 17 #[.pointer (some ⟨p, 0, none⟩), .int .i64 3, .int .i64 (i : Int), .int .i64 B, v] w (AfterR w p S (1, D)) := by
  have h26 := h.c26
  rw [hl] at h26
  have h7 : ¬ (7 : Int) < i := by omega
  clear hl
  by_cases h0 : B < 0
  · clear hB
    go_enter Try.func17, Try.ntmps17
    go_wp2
    go_ret
    exact ⟨rfl, S, V, h, Upd.refl _ _, fun k hk => .inl hk⟩
  · have h9 : 7 < B := by simp [inRange] at hB; omega
    clear hB
    go_enter Try.func17, Try.ntmps17
    go_wp2
    go_ret
    exact ⟨rfl, S, V, h, Upd.refl _ _, fun k hk => .inl hk⟩

set_option maxHeartbeats 8000000 in
theorem ract_rename {w : World} {p : Nat} {S : Nat → Prop} {V : Nat → Value} {D : DM} (h : RefAt w p S V D) (i j : Nat) (v : Value) (hl : D.lost = false) (hi : i < 8) (hj : j < 8) :
    Calls Try.prog 17 #[.pointer (some ⟨p, 0, none⟩), .int .i64 3, .int .i64 (i : Int), .int .i64 (j : Int), v] w (AfterR w p S (D.rename i j)) := by
  have h26 := h.c26
  have x0 := h.has i hi
  rw [hl] at h26
  have h7 : ¬ (7 : Int) < i := by omega
  have h8 : (i : Int) < 8 := by omega
  have j7 : ¬ (7 : Int) < j := by omega
  have j8 : (j : Int) < 8 := by omega
  have hrd : rd D.lost [(i : Int), (j : Int)] = 0 := by
    have h1 : inRange (i : Int) = true := by simp [inRange]; omega
    have h2 : inRange (j : Int) = true := by simp [inRange]; omega
    simp [rd, rdy, hl, h1, h2]
  have h25 := h.c25
  have f25 := h.frozen 25
  have f26 := h.frozen 26
  obtain ⟨a, c, hv⟩ := h.slice i hi
  have x1 := h.val i hi
  rw [hv] at x1
  have x2 := h.safe i hi
  by_cases hh : (D.f i).has = true
  · rw [hh] at x0
    by_cases hbad : (i : Int) = j ∨ (D.f i).safe ≠ (D.f i).b.length
    · have e1 : D.rename i j = (1, D) := by simp only [DM.rename, hrd, if_true, Int.toNat_natCast, hh, hbad]
      rw [e1]
      clear e1 hrd hl hh hv
      by_cases hij : (i : Int) = j
      · have hb := beq_iff_eq.2 hij
        clear hij hbad
        go_enter Try.func17, Try.ntmps17
        go_wp2_with fail
        go_quiet (fail)
        go_wp2
        go_ret
        exact ⟨rfl, S, V, h.drewN nq, (Upd.refl S w).drewN nq, fun k hk => .inl hk⟩
      · have hne : (((D.f i).safe : Int) != ((D.f i).b.length : Int)) = true := by
          rw [bne_iff_ne]; have := hbad.resolve_left hij; omega
        have hb := beq_eq_false_iff_ne.2 hij
        clear hij hbad
        go_enter Try.func17, Try.ntmps17
        go_wp2_with fail
        go_quiet (fail)
        go_wp2
        go_ret
        exact ⟨rfl, S, V, h.drewN nq, (Upd.refl S w).drewN nq, fun k hk => .inl hk⟩
    · have hij : ¬ (i : Int) = j := fun x => hbad (.inl x)
      have hsl : (D.f i).safe = (D.f i).b.length := Classical.byContradiction fun x => hbad (.inr x)
      have hb := beq_eq_false_iff_ne.2 hij
      have hne : (((D.f i).safe : Int) != ((D.f i).b.length : Int)) = false := by rw [hsl]; simp
      have hij' : i ≠ j := by omega
      obtain ⟨aj, cj, hvj⟩ := h.slice j hj
      have y0 := h.has j hj
      have y1 := h.val j hj
      have y2 := h.safe j hj
      rw [hvj] at y1
      have f0 := h.frozen (1 + i * 3)
      have f1 := h.frozen (1 + i * 3 + 1)
      have f2 := h.frozen (1 + i * 3 + 2)
      have g0 := h.frozen (1 + j * 3)
      have g1 := h.frozen (1 + j * 3 + 1)
      have g2 := h.frozen (1 + j * 3 + 2)
      have HV := Lib.hid hv
      have HH := Lib.hid hh
      rcases D.fuse_cases with ⟨hz, hsp⟩ | ⟨n, hn, hz, hlit, hfu, hsp⟩ | ⟨hz, _, hsp⟩
      · have e1 : D.rename i j = (6, { D with lost := true }) := by
          simp only [DM.rename, hrd, if_true, Int.toNat_natCast, hh, hbad, if_false, hsp]; rfl
        rw [e1]
        rw [hz] at h25
        clear e1 hrd hsp hl hh hz hv hvj hij hbad hsl
        go_enter Try.func17, Try.ntmps17
        go_wp2_with fail
        go_quiet (fail)
        go_wp2
        go_ret
        exact ⟨rfl, S, V, (h.drewN nq).lose, ((Upd.refl S w).drewN nq).setCell (p := ⟨p, 26, none⟩) (.inl h.own) _, fun k hk => .inl hk⟩
      · have e1 : D.rename i j = (0, (({ D with lit := true, fuse := n - 1 } : DM).set j (D.f i)).set i FM.gone) := by
          simp only [DM.rename, hrd, if_true, Int.toNat_natCast, hh, hbad, if_false, hsp]
        rw [e1]
        rw [hz] at h25
        have hn0 : ((n : Int) == 0) = false := by simp; omega
        have hn1 : (0 : Int) < n := by omega
        have hn9 : (n : Int) ≤ 9223372036854775807 := by have := h.ok.fuse; omega
        clear e1 hrd hsp hl hh hz hv hvj hij hbad hsl hlit hfu
        go_enter Try.func17, Try.ntmps17
        go_wp2_with fail
        go_quiet (fail)
        go_wp2_with fail
        go_region
        go_wp2
        go_ret
        have hW := (h.drewN nq).fused true (n - 1) ((n : Int) - 1) (by simp; omega) (by omega)
        obtain ⟨V6, h6, u6⟩ := hW.moved hi hj hij' HH.out HV.out
        exact ⟨rfl, S, V6, h6.drew, ((((Upd.refl S w).drewN nq).setCell (p := ⟨p, 25, none⟩) (.inl h.own) _).trans u6 (fun k _ hk => by rw [hk]; exact h.own)).drew, fun k hk => .inl hk⟩
      · have e1 : D.rename i j = (0, (D.set j (D.f i)).set i FM.gone) := by
          simp only [DM.rename, hrd, if_true, Int.toNat_natCast, hh, hbad, if_false, hsp]
        rw [e1]
        rw [hz] at h25
        clear e1 hrd hsp hl hh hz hv hvj hij hbad hsl
        go_enter Try.func17, Try.ntmps17
        go_wp2_with fail
        go_quiet (fail)
        go_wp2_with fail
        go_region
        go_wp2
        go_ret
        obtain ⟨V6, h6, u6⟩ := (h.drewN (nq + 1)).moved hi hj hij' HH.out HV.out
        exact ⟨rfl, S, V6, h6, ((Upd.refl S w).drewN (nq + 1)).trans u6 (fun k _ hk => by rw [hk]; exact h.own), fun k hk => .inl hk⟩
  · have hh' : (D.f i).has = false := by simpa using hh
    rw [hh'] at x0
    have e1 : D.rename i j = (7, D) := by simp [DM.rename, hrd, hh']
    rw [e1]
    clear e1 hrd hl hh hh' hv
    go_enter Try.func17, Try.ntmps17
    go_wp2
    go_ret
    exact ⟨rfl, S, V, h, Upd.refl _ _, fun k hk => .inl hk⟩
end Go.Proofs.Ytljoalihioflmaa
