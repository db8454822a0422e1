/-
  The reference's disk (package recoupref01): Act, kinds 1 (Sync) and 4 (Remove). Conditions: those of each theorem ('RefAt': the pointer leads to a reference disk that holds D).
-/
import Derived.Test.YtljoalihioflmaaRefC
import Derived.BigRegion
namespace Go.Proofs.Ytljoalihioflmaa
open Go.RowKit
set_option maxRecDepth 100000

/-- What the fuse says: spent; so many further; none. -/
theorem DM.fuse_cases (D : DM) : (D.fz = 0 ∧ D.spend = (6, { D with lost := true })) ∨ (∃ n : Nat, 0 < n ∧ D.fz = n ∧ D.lit = true ∧ D.fuse = n ∧ D.spend = (0, { D with lit := true, fuse := n - 1 })) ∨ (D.fz = -1 ∧ D.lit = false ∧ D.spend = (0, D)) := by
  unfold DM.fz DM.spend
  by_cases hl : D.lit = true
  · by_cases hf : D.fuse = 0
    · left; simp [hl, hf]
    · right; left
      refine ⟨D.fuse, by omega, by simp [hl], hl, rfl, ?_⟩
      rw [if_pos hl, if_neg hf]
      rw [show D.lit = true from hl]
  · right; right
    have : D.lit = false := by simpa using hl
    simp [this]

theorem RefAt.synced {w : World} {p : Nat} {S : Nat → Prop} {V : Nat → Value} {D : DM} (h : RefAt w p S V D) {i : Nat} (hi : i < 8) :
    ∃ V', RefAt (w.setCell ⟨p, 1 + i * 3 + 2, none⟩ (.int .i64 ((D.f i).b.length : Int))) p S V' (D.set i { has := (D.f i).has, b := (D.f i).b, safe := (D.f i).b.length }) := by
  have h1 := h.put (w' := w.setCell ⟨p, 1 + i * 3 + 2, none⟩ (.int .i64 ((D.f i).b.length : Int))) hi { has := (D.f i).has, b := (D.f i).b, safe := (D.f i).b.length } (V i)
    ((upd_set (1 + i * 3 + 2) _).mono (fun k _ hk => .inl hk)) (h.blk_set _ _) (fun o ho => by rw [cell_other (by omega)]) (by rw [cell_other (by omega)]; exact h.has i hi) (by rw [cell_other (by omega)]; exact h.val i hi)
    (cell_same (h.safe i hi)) (ownsRow_upd (h.row i hi) (upd_set _ _) (fun g hg => (h.mine i hi g hg).2)) (fun g hg => .inl hg)
    (h.ok.set hi (Nat.le_refl _) (fun hf => by obtain ⟨e1, _⟩ := h.ok.none i hi hf; exact ⟨e1, by simp [e1]⟩) (by have := h.ok.used; simp only []; omega))
  have hS : More S w (w.setCell ⟨p, 1 + i * 3 + 2, none⟩ (.int .i64 ((D.f i).b.length : Int))) = S := by
    funext k
    simp only [More, setCell_size]
    exact propext ⟨fun x => x.elim id (fun y => by omega), .inl⟩
  rw [hS] at h1
  exact ⟨_, h1⟩
theorem RefAt.drewN {w : World} {p : Nat} {S : Nat → Prop} {V : Nat → Value} {D : DM} (h : RefAt w p S V D) (n : Nat) : RefAt (w.drewN n) p S V D :=
  h.upd (T := fun _ => False) ((Upd.refl _ w).drewN n) (fun _ _ x => x)

set_option maxHeartbeats 1600000 in
/-- A file that isn't there. -/
theorem ract_none {w : World} {p : Nat} {S : Nat → Prop} {V : Nat → Value} {D : DM} (h : RefAt w p S V D) (k B : Int) (i : Nat) (v : Value) (hl : D.lost = false) (hk : k = 1 ∨ k = 2 ∨ k = 4) (hi : i < 8) (hh : (D.f i).has = false) :
    Calls Try.prog 17 #[.pointer (some ⟨p, 0, none⟩), .int .i64 k, .int .i64 (i : Int), .int .i64 B, v] w (AfterR w p S (7, D)) := by
  have h26 := h.c26
  have x0 := h.has i hi
  rw [hl] at h26
  rw [hh] at x0
  have h7 : ¬ (7 : Int) < i := by omega
  have h8 : (i : Int) < 8 := by omega
  clear hl hh
  rcases hk with rfl | rfl | rfl
  all_goals
    go_enter Try.func17, Try.ntmps17
    go_wp2
    go_ret
    exact ⟨rfl, S, V, h, Upd.refl _ _, fun k hk => .inl hk⟩

set_option maxHeartbeats 4000000 in
theorem ract_sync {w : World} {p : Nat} {S : Nat → Prop} {V : Nat → Value} {D : DM} (h : RefAt w p S V D) (B : Int) (i : Nat) (v : Value) (hl : D.lost = false) (hi : i < 8) (hh : (D.f i).has = true) :
    Calls Try.prog 17 #[.pointer (some ⟨p, 0, none⟩), .int .i64 1, .int .i64 (i : Int), .int .i64 B, v] w (AfterR w p S (D.sync i)) := by
  have h26 := h.c26
  have x0 := h.has i hi
  rw [hl] at h26
  rw [hh] at x0
  have h7 : ¬ (7 : Int) < i := by omega
  have h8 : (i : Int) < 8 := by omega
  have hp : D.prs i = 0 := by
    have : inRange (i : Int) = true := by simp [inRange]; omega
    simp [DM.prs, hl, this, hh]
  have h25 := h.c25
  have f25 := h.frozen 25
  have f26 := h.frozen 26
  obtain ⟨a, c, hv⟩ := h.slice i hi
  have x1 := h.val i hi
  rw [hv] at x1
  have x2 := h.safe i hi
  have f2 := h.frozen (1 + i * 3 + 2)
  rcases D.fuse_cases with ⟨hz, hsp⟩ | ⟨n, hn, hz, hlit, hfu, hsp⟩ | ⟨hz, _, hsp⟩
  · have e1 : D.sync i = (6, { D with lost := true }) := by simp [DM.sync, hp, hsp]
    rw [e1]
    rw [hz] at h25
    clear e1 hp hsp hl hh hz hv
    go_enter Try.func17, Try.ntmps17
    go_wp2_with fail
    go_quiet (fail)
    go_wp2
    go_ret
    exact ⟨rfl, S, V, (h.drewN nq).lose, ((Upd.refl S w).drewN nq).setCell (p := ⟨p, 26, none⟩) (.inl h.own) _, fun k hk => .inl hk⟩
  · have e1 : D.sync i = (0, ({ D with lit := true, fuse := n - 1 } : DM).set i { has := (D.f i).has, b := (D.f i).b, safe := (D.f i).b.length }) := by
      simp only [DM.sync, hp, hsp, if_true, Int.toNat_natCast]
    rw [e1]
    rw [hz] at h25
    have hn0 : ((n : Int) == 0) = false := by simp; omega
    have hn1 : (0 : Int) < n := by omega
    have hn9 : (n : Int) ≤ 9223372036854775807 := by have := h.ok.fuse; omega
    clear e1 hp hsp hl hh hz hv
    go_enter Try.func17, Try.ntmps17
    go_wp2_with fail
    go_quiet (fail)
    go_wp2_with fail
    go_region
    go_wp2
    go_ret
    have hfus := (h.drewN nq).fused true (n - 1) ((n : Int) - 1) (by simp; omega) (by omega)
    obtain ⟨V2, h2⟩ := hfus.synced hi
    exact ⟨rfl, S, V2, h2.drew, ((((Upd.refl S w).drewN nq).setCell (p := ⟨p, 25, none⟩) (.inl h.own) _).setCell (p := ⟨p, _, none⟩) (.inl h.own) _).drew, fun k hk => .inl hk⟩
  · have e1 : D.sync i = (0, D.set i { has := (D.f i).has, b := (D.f i).b, safe := (D.f i).b.length }) := by
      simp only [DM.sync, hp, hsp, if_true, Int.toNat_natCast]
    rw [e1]
    rw [hz] at h25
    clear e1 hp hsp hl hh hz hv
    go_enter Try.func17, Try.ntmps17
    go_wp2_with fail
    go_quiet (fail)
    go_wp2_with fail
    go_region
    go_wp2
    go_ret
    obtain ⟨V2, h2⟩ := (h.drewN nq).synced hi
    exact ⟨rfl, S, V2, h2.drew, (((Upd.refl S w).drewN nq).setCell (p := ⟨p, _, none⟩) (.inl h.own) _).drew, fun k hk => .inl hk⟩

set_option maxHeartbeats 4000000 in
theorem ract_remove {w : World} {p : Nat} {S : Nat → Prop} {V : Nat → Value} {D : DM} (h : RefAt w p S V D) (B : Int) (i : Nat) (v : Value) (hl : D.lost = false) (hi : i < 8) (hh : (D.f i).has = true) :
    Calls Try.prog 17 #[.pointer (some ⟨p, 0, none⟩), .int .i64 4, .int .i64 (i : Int), .int .i64 B, v] w (AfterR w p S (D.remove i)) := by
  have h26 := h.c26
  have x0 := h.has i hi
  rw [hl] at h26
  rw [hh] at x0
  have h7 : ¬ (7 : Int) < i := by omega
  have h8 : (i : Int) < 8 := by omega
  have hp : D.prs i = 0 := by
    have : inRange (i : Int) = true := by simp [inRange]; omega
    simp [DM.prs, hl, this, hh]
  have h25 := h.c25
  have f25 := h.frozen 25
  have f26 := h.frozen 26
  obtain ⟨a, c, hv⟩ := h.slice i hi
  have x1 := h.val i hi
  rw [hv] at x1
  have x2 := h.safe i hi
  have f0 := h.frozen (1 + i * 3)
  have f1 := h.frozen (1 + i * 3 + 1)
  have f2 := h.frozen (1 + i * 3 + 2)
  rcases D.fuse_cases with ⟨hz, hsp⟩ | ⟨n, hn, hz, hlit, hfu, hsp⟩ | ⟨hz, _, hsp⟩
  · have e1 : D.remove i = (6, { D with lost := true }) := by simp [DM.remove, hp, hsp]
    rw [e1]
    rw [hz] at h25
    clear e1 hp hsp hl hh hz hv
    go_enter Try.func17, Try.ntmps17
    go_wp2_with fail
    go_quiet (fail)
    go_wp2
    go_ret
    exact ⟨rfl, S, V, (h.drewN nq).lose, ((Upd.refl S w).drewN nq).setCell (p := ⟨p, 26, none⟩) (.inl h.own) _, fun k hk => .inl hk⟩
  · have e1 : D.remove i = (0, ({ D with lit := true, fuse := n - 1 } : DM).set i FM.gone) := by
      simp only [DM.remove, hp, hsp, if_true, Int.toNat_natCast]
    rw [e1]
    rw [hz] at h25
    have hn0 : ((n : Int) == 0) = false := by simp; omega
    have hn1 : (0 : Int) < n := by omega
    have hn9 : (n : Int) ≤ 9223372036854775807 := by have := h.ok.fuse; omega
    clear e1 hp hsp hl hh hz hv
    go_enter Try.func17, Try.ntmps17
    go_wp2_with fail
    go_quiet (fail)
    go_wp2
    go_ret
    have hfus := (h.drewN nq).fused true (n - 1) ((n : Int) - 1) (by simp; omega) (by omega)
    obtain ⟨V2, h2⟩ := hfus.gone hi
    exact ⟨rfl, S, V2, h2, (((((Upd.refl S w).drewN nq).setCell (p := ⟨p, 25, none⟩) (.inl h.own) _).setCell (p := ⟨p, _, none⟩) (.inl h.own) _).setCell (p := ⟨p, _, none⟩) (.inl h.own) _).setCell (p := ⟨p, _, none⟩) (.inl h.own) _, fun k hk => .inl hk⟩
  · have e1 : D.remove i = (0, D.set i FM.gone) := by
      simp only [DM.remove, hp, hsp, if_true, Int.toNat_natCast]
    rw [e1]
    rw [hz] at h25
    clear e1 hp hsp hl hh hz hv
    go_enter Try.func17, Try.ntmps17
    go_wp2_with fail
    go_quiet (fail)
    go_wp2
    go_ret
    obtain ⟨V2, h2⟩ := (h.drewN nq).gone hi
    exact ⟨rfl, S, V2, h2, ((((Upd.refl S w).drewN nq).setCell (p := ⟨p, _, none⟩) (.inl h.own) _).setCell (p := ⟨p, _, none⟩) (.inl h.own) _).setCell (p := ⟨p, _, none⟩) (.inl h.own) _, fun k hk => .inl hk⟩
end Go.Proofs.Ytljoalihioflmaa
