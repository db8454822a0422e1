/-
  The reference's disk (package recoupref01): Act, kind 2 (Cut). Conditions: those of each theorem ('RefAt': the pointer leads to a reference disk that holds D).
-/
import Derived.Test.YtljoalihioflmaaRefD
import Derived.Deep.RegionHeld3
import Derived.Deep.RegionLaw
namespace Go.Proofs.Ytljoalihioflmaa
open Go.RowKit
set_option maxRecDepth 100000

/-- A new, empty slice of bytes, behind a draw. -/
theorem own_new (W : World) : ((W.alloc (.cells #[] 5)).drew).ownsRow W.heap.size 5 1 (.slice (some ⟨W.heap.size, 0, none⟩) 0 0) 0 (([] : List UInt8).map bval) :=
  World.ownsRow_made W #[] 0 (Nat.le_refl _) (Nat.zero_le _) rfl
theorem below_new {W w1 : World} (hg : ((W.alloc (.cells #[] 5)).drew).grownBy w1 (Value.slice (some ⟨W.heap.size, 0, none⟩) 0 0).ownBlock) : Below W.heap.size W w1 :=
  ((Below.refl _ W).alloc (Nat.le_refl _) _).drew.grown hg (by simp) (fun k hk => by simp [Value.ownBlock] at hk; omega)
theorem bytes_new {W : World} {a : Option Addr} {xs : List UInt8} (h : IsBytes W a xs) : IsBytes ((W.alloc (.cells #[] 5)).drew) a xs :=
  h.upd (S := fun _ => False) (((Upd.refl _ W).alloc _).drew) (fun _ _ _ x => x)

theorem RefAt.bytes {w : World} {p : Nat} {S : Nat → Prop} {V : Nat → Value} {D : DM} (h : RefAt w p S V D) (i : Nat) (hi : i < 8) :
    ∃ a c, V i = .slice a (D.f i).b.length c ∧ IsBytes w a (D.f i).b ∧ (D.f i).b.length ≤ c ∧ c ≤ maxLen ∧ (a = none → c = 0) := by
  obtain ⟨a, c, hv⟩ := h.slice i hi
  have hr := h.row i hi
  rw [hv] at hr
  obtain ⟨h1, _, h2, h3, h4⟩ := bytes_of_row hr
  exact ⟨a, c, hv, h1, h2, h3, h4⟩

/-- A file is stored whole: its bytes lie in a block that is new since W. -/
theorem RefAt.filed {W w1 : World} {p : Nat} {S : Nat → Prop} {V : Nat → Value} {D : DM} (h : RefAt W p S V D) (hb : Below W.heap.size W w1) {i : Nat} (hi : i < 8) {zs : List UInt8} {s n : Nat} {a' : Option Addr} {c' : Nat} (hn : zs.length = n)
    (hr : w1.ownsRow W.heap.size 5 1 (.slice a' n c') n (zs.map bval)) (hs : s ≤ n) (hu : D.used 8 + n ≤ D.cap + (D.f i).b.length) :
    ∃ V', RefAt (((w1.setCell ⟨p, 1 + i * 3, none⟩ (.bool true)).setCell ⟨p, 1 + i * 3 + 1, none⟩ (.slice a' n c')).setCell ⟨p, 1 + i * 3 + 2, none⟩ (.int .i64 (s : Int))) p (More S W w1) V' (D.set i { has := true, b := zs, safe := s }) ∧
      Upd S W (((w1.setCell ⟨p, 1 + i * 3, none⟩ (.bool true)).setCell ⟨p, 1 + i * 3 + 1, none⟩ (.slice a' n c')).setCell ⟨p, 1 + i * 3 + 2, none⟩ (.int .i64 (s : Int))) := by
  subst hn
  have hp := h.lt p h.own
  have h1 := h.below hb
  have e := fun o => hb.cell (p := ⟨p, o, none⟩) hp
  have hu1 : Upd (fun k => k = p) W (((w1.setCell ⟨p, 1 + i * 3, none⟩ (.bool true)).setCell ⟨p, 1 + i * 3 + 1, none⟩ (.slice a' zs.length c')).setCell ⟨p, 1 + i * 3 + 2, none⟩ (.int .i64 (s : Int))) :=
    (((below_upd (fun k => k = p) hb).setCell (p := ⟨p, _, none⟩) (.inl rfl) _).setCell (p := ⟨p, _, none⟩) (.inl rfl) _).setCell (p := ⟨p, _, none⟩) (.inl rfl) _
  have h2 := h.put (w' := ((w1.setCell ⟨p, 1 + i * 3, none⟩ (.bool true)).setCell ⟨p, 1 + i * 3 + 1, none⟩ (.slice a' zs.length c')).setCell ⟨p, 1 + i * 3 + 2, none⟩ (.int .i64 (s : Int))) hi { has := true, b := zs, safe := s } (.slice a' zs.length c')
    (hu1.mono (fun k _ hk => .inl hk))
    (by
      obtain ⟨cur, e1, e2⟩ := h1.blk
      exact ⟨_, setCell_heap_at (setCell_heap_at (setCell_heap_at e1)), by simpa using e2⟩)
    (fun o ho => by rw [cell_other (by omega), cell_other (by omega), cell_other (by omega), e])
    (by rw [cell_other (by omega), cell_other (by omega)]; exact cell_same (h1.has i hi))
    (by rw [cell_other (by omega)]; exact cell_same (by rw [cell_other (by omega)]; exact h1.val i hi))
    (cell_same (by rw [cell_other (by omega), cell_other (by omega)]; exact h1.safe i hi))
    (by
      have far : ∀ g, (Value.slice a' zs.length c').ownBlock = some g → ¬ g = p := fun g hg => by have := (hr.lt g hg).1; omega
      have h3 := ownsRow_upd (ownsRow_upd (ownsRow_upd hr (upd_set (p := p) (1 + i * 3) (.bool true)) far) (upd_set (p := p) (1 + i * 3 + 1) (.slice a' zs.length c')) far) (upd_set (p := p) (1 + i * 3 + 2) (.int .i64 (s : Int))) far
      obtain ⟨h4, h5⟩ := h3
      exact ⟨h4, h5.elim .inl fun ⟨g, cap, cur, hv, _, r⟩ => .inr ⟨g, cap, cur, hv, Nat.zero_le _, r⟩⟩)
    (fun g hg => .inr (hr.lt g hg).1)
    (h.ok.set hi hs (fun x => by cases x) (by omega))
  have hS : More S W (((w1.setCell ⟨p, 1 + i * 3, none⟩ (.bool true)).setCell ⟨p, 1 + i * 3 + 1, none⟩ (.slice a' zs.length c')).setCell ⟨p, 1 + i * 3 + 2, none⟩ (.int .i64 (s : Int))) = More S W w1 := by
    funext k; simp only [More, setCell_size]
  rw [hS] at h2
  exact ⟨_, h2, hu1.mono (fun k _ hk => by rw [hk]; exact h.own)⟩

set_option maxHeartbeats 4000000 in
theorem ract_cut {w : World} {p : Nat} {S : Nat → Prop} {V : Nat → Value} {D : DM} (h : RefAt w p S V D) (B : Int) (i : Nat) (v : Value) (hl : D.lost = false) (hi : i < 8) (hh : (D.f i).has = true) :
    Calls Try.prog 17 #[.pointer (some ⟨p, 0, none⟩), .int .i64 2, .int .i64 (i : Int), .int .i64 B, v] w (AfterR w p S (D.cut i B)) := by
  have h26 := h.c26
  have x0 := h.has i hi
  rw [hl] at h26
  rw [hh] at x0
  have h7 : ¬ (7 : Int) < i := by omega
  have h8 : (i : Int) < 8 := by omega
  have hp : D.prs i = 0 := by
    have : inRange (i : Int) = true := by simp [inRange]; omega
    simp [DM.prs, hl, this, hh]
  have h25 := h.c25
  have f25 := h.frozen 25
  have f26 := h.frozen 26
  obtain ⟨a, c, hv, hby, hc1, hc2, hnc⟩ := h.bytes i hi
  have x1 := h.val i hi
  rw [hv] at x1
  have x2 := h.safe i hi
  have hlen : (D.f i).b.length ≤ 1048576 := by have := D.set_len i hi; have := h.ok.used; have := h.ok.cap; omega
  unfold maxLen at hc2
  by_cases hr : B < 0 ∨ ((D.f i).b.length : Int) < B
  · have e1 : D.cut i B = (1, D) := by simp only [DM.cut, hp, if_true, Int.toNat_natCast, hr]
    rw [e1]
    clear e1 hp hl hh hv
    by_cases h0 : B < 0
    · clear hr
      go_enter Try.func17, Try.ntmps17
      go_wp2
      go_ret
      exact ⟨rfl, S, V, h, Upd.refl _ _, fun k hk => .inl hk⟩
    · have h1 : ((D.f i).b.length : Int) < B := hr.resolve_left h0
      clear hr
      go_enter Try.func17, Try.ntmps17
      go_wp2
      go_ret
      exact ⟨rfl, S, V, h, Upd.refl _ _, fun k hk => .inl hk⟩
  · have h0 : ¬ B < 0 := fun x => hr (.inl x)
    have h1 : ¬ ((D.f i).b.length : Int) < B := fun x => hr (.inr x)
    obtain ⟨m, rfl⟩ := Int.eq_ofNat_of_zero_le (show 0 ≤ B by omega)
    rcases D.fuse_cases with ⟨hz, hsp⟩ | ⟨n, hn, hz, hlit, hfu, hsp⟩ | ⟨hz, _, hsp⟩
    · have e1 : D.cut i m = (6, { D with lost := true }) := by
        simp only [DM.cut, hp, if_true, Int.toNat_natCast, hr, if_false, hsp]; rfl
      rw [e1]
      rw [hz] at h25
      clear e1 hp hsp hl hh hz hv hr
      go_enter Try.func17, Try.ntmps17
      go_wp2_with fail
      go_quiet (fail)
      go_wp2
      go_ret
      exact ⟨rfl, S, V, (h.drewN nq).lose, ((Upd.refl S w).drewN nq).setCell (p := ⟨p, 26, none⟩) (.inl h.own) _, fun k hk => .inl hk⟩
    · have e1 : D.cut i m = (0, ({ D with lit := true, fuse := n - 1 } : DM).set i { has := true, b := (D.f i).b.take m, safe := m }) := by
        simp only [DM.cut, hp, if_true, Int.toNat_natCast, hr, if_false, hsp, hh]
      rw [e1]
      rw [hz] at h25
      have hn0 : ((n : Int) == 0) = false := by simp; omega
      have hn1 : (0 : Int) < n := by omega
      have hn9 : (n : Int) ≤ 9223372036854775807 := by have := h.ok.fuse; omega
      have hmc : m ≤ c := by omega
      have hmi : (m : Int) ≤ c := by omega
      have htl : ((D.f i).b.take m).length = m := by simp; omega
      have HTL := Lib.hid htl
      clear e1 hp hsp hl hh hz hv hr htl
      go_enter Try.func17, Try.ntmps17
      go_wp2_with fail
      go_quiet (fail)
      go_wp2_with fail
      have hW := (h.drewN nq).fused true (n - 1) ((n : Int) - 1) (by simp; omega) (by omega)
      have uW : Upd S w ((w.drewN nq).setCell ⟨p, 25, none⟩ (.int .i64 ((n : Int) - 1))) := ((Upd.refl S w).drewN nq).setCell (p := ⟨p, 25, none⟩) (.inl h.own) _
      have hbW : IsBytes ((w.drewN nq).setCell ⟨p, 25, none⟩ (.int .i64 ((n : Int) - 1))) a (D.f i).b := by
        obtain ⟨a2, c2, hv2, hby2, _⟩ := hW.bytes i hi
        have e2 := hW.val i hi
        rw [cell_other (by omega), show (w.drewN nq).cell? ⟨p, 1 + i * 3 + 1, none⟩ = w.cell? ⟨p, 1 + i * 3 + 1, none⟩ from rfl, x1, hv2] at e2
        injection e2 with e2
        injection e2 with e2 _ _
        rw [e2]; exact hby2
      have y1 : ((w.drewN nq).setCell ⟨p, 25, none⟩ (.int .i64 ((n : Int) - 1))).cell? ⟨p, 1 + i * 3 + 1, none⟩ = some (.slice a (D.f i).b.length c) := by rw [cell_other (by omega)]; exact x1
      have sW : ((w.drewN nq).setCell ⟨p, 25, none⟩ (.int .i64 ((n : Int) - 1))).heap.size = w.heap.size := by rw [setCell_size]; rfl
      clear x0 x1 x2 h25 h26 f25 f26
      generalize (w.drewN nq).setCell ⟨p, 25, none⟩ (.int .i64 ((n : Int) - 1)) = W at *
      have SW := Lib.hid sW
      clear sW
      have hpW := hW.lt p hW.own
      have yA : (W.alloc (.cells #[] 5)).cell? ⟨p, 1 + i * 3 + 1, none⟩ = some (.slice a (D.f i).b.length c) := by rw [World.cell?_alloc_past _ _ _ hpW]; exact y1
      have happ : 0 + m ≤ 140737488355328 := by omega
      have hbase : W.heap.size ≤ ((W.alloc (.cells #[] 5)).drew).heap.size := by simp
      have hbN := (bytes_new hbW).take m
      go_region_law
        ((refine step_append_bytes (by rfl) _ _ 31 (by rfl) W.heap.size 5 Try.underlying31 u8_info (.slice (some ⟨W.heap.size, 0, none⟩) 0 0) 0 [] (by kernel_rfl) (own_new W) a ((D.f i).b.take m) m HTL.out c (by kernel_rfl) hbN hnc happ hbase ?_; intro a' c' w1 hr1 hg1 hn1; have hb1 := below_new hg1; have hd1 := hW.below hb1; have y0 := hd1.has i hi; have y1' := (hb1.cell (p := ⟨p, 1 + i * 3 + 1, none⟩) hpW).trans y1; have y2 := hd1.safe i hi; have f0 := hd1.frozen (1 + i * 3); have f1 := hd1.frozen (1 + i * 3 + 1); have f2 := hd1.frozen (1 + i * 3 + 2)))
      all_goals
        go_wp2
        go_ret
        rw [Nat.zero_add] at hr1
        obtain ⟨V2, h2, u2⟩ := hW.filed hb1 hi (zs := (D.f i).b.take m) (n := m) HTL.out (by simpa using hr1) (Nat.le_refl _) (by have h9 := hW.ok.used; exact Nat.add_le_add h9 (by show m ≤ (D.f i).b.length; omega))
        exact ⟨rfl, _, V2, by simpa using h2, by simpa using uW.trans u2 (fun _ _ x => x), fun k hk => by rw [← SW.out]; exact More_le (by simp) k hk⟩
    · have e1 : D.cut i m = (0, D.set i { has := true, b := (D.f i).b.take m, safe := m }) := by
        simp only [DM.cut, hp, if_true, Int.toNat_natCast, hr, if_false, hsp, hh]
      rw [e1]
      rw [hz] at h25
      have hmc : m ≤ c := by omega
      have hmi : (m : Int) ≤ c := by omega
      have htl : ((D.f i).b.take m).length = m := by simp; omega
      have HTL := Lib.hid htl
      clear e1 hp hsp hl hh hz hv hr htl
      go_enter Try.func17, Try.ntmps17
      go_wp2_with fail
      go_quiet (fail)
      have hW := h.drewN nq
      have hbW : IsBytes (w.drewN nq) a (D.f i).b := hby.upd (S := fun _ => False) ((Upd.refl _ w).drewN nq) (fun _ _ _ x => x)
      have y1 : (w.drewN nq).cell? ⟨p, 1 + i * 3 + 1, none⟩ = some (.slice a (D.f i).b.length c) := x1
      have uW : Upd S w (w.drewN nq) := (Upd.refl S w).drewN nq
      have sW : (w.drewN nq).heap.size = w.heap.size := rfl
      have z25 : (w.drewN nq).cell? ⟨p, 25, none⟩ = some (.int .i64 (-1)) := h25
      clear x0 x1 x2 h25 h26 f25 f26
      generalize w.drewN nq = W at *
      go_wp2_with fail
      have SW := Lib.hid sW
      clear sW
      have hpW := hW.lt p hW.own
      have yA : (W.alloc (.cells #[] 5)).cell? ⟨p, 1 + i * 3 + 1, none⟩ = some (.slice a (D.f i).b.length c) := by rw [World.cell?_alloc_past _ _ _ hpW]; exact y1
      have happ : 0 + m ≤ 140737488355328 := by omega
      have hbase : W.heap.size ≤ ((W.alloc (.cells #[] 5)).drew).heap.size := by simp
      have hbN := (bytes_new hbW).take m
      go_region_law
        ((refine step_append_bytes (by rfl) _ _ 31 (by rfl) W.heap.size 5 Try.underlying31 u8_info (.slice (some ⟨W.heap.size, 0, none⟩) 0 0) 0 [] (by kernel_rfl) (own_new W) a ((D.f i).b.take m) m HTL.out c (by kernel_rfl) hbN hnc happ hbase ?_; intro a' c' w1 hr1 hg1 hn1; have hb1 := below_new hg1; have hd1 := hW.below hb1; have y0 := hd1.has i hi; have y1' := (hb1.cell (p := ⟨p, 1 + i * 3 + 1, none⟩) hpW).trans y1; have y2 := hd1.safe i hi; have f0 := hd1.frozen (1 + i * 3); have f1 := hd1.frozen (1 + i * 3 + 1); have f2 := hd1.frozen (1 + i * 3 + 2)))
      all_goals
        go_wp2
        go_ret
        rw [Nat.zero_add] at hr1
        obtain ⟨V2, h2, u2⟩ := hW.filed hb1 hi (zs := (D.f i).b.take m) (n := m) HTL.out (by simpa using hr1) (Nat.le_refl _) (by have h9 := hW.ok.used; exact Nat.add_le_add h9 (by show m ≤ (D.f i).b.length; omega))
        exact ⟨rfl, _, V2, by simpa using h2, by simpa using uW.trans u2 (fun _ _ x => x), fun k hk => by rw [← SW.out]; exact More_le (by simp) k hk⟩
end Go.Proofs.Ytljoalihioflmaa
