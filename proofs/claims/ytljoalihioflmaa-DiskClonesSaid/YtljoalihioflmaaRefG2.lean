/-
  The reference's disk (package recoupref01): Act, kind 0 (Append). Conditions: those of each theorem ('RefAt': the pointer leads to a reference disk that holds D).
-/
import Derived.Test.YtljoalihioflmaaRefG
namespace Go.Proofs.Ytljoalihioflmaa
open Go.RowKit
set_option maxRecDepth 100000
set_option linter.unusedVariables false

set_option maxHeartbeats 8000000 in
theorem ract_append_lit {w : World} {p : Nat} {S : Nat → Prop} {V : Nat → Value} {D : DM} (h : RefAt w p S V D) (B : Int) (i : Nat) (ad : Option Addr) (ys : List UInt8) (cy : Nat) (hl : D.lost = false) (hi : i < 8)
    (hyc : ys.length ≤ cy) (hycm : cy ≤ maxLen) (hyb : IsBytes w ad ys) (hyn : ad = none → cy = 0) (hys : ys ≠ [] → ∀ x, ad = some x → ¬ S x.block) (hfit : D.used 8 + ys.length ≤ D.cap) (n : Nat) (hn : 0 < n) (hz : D.fz = n) (hn9 : n ≤ 9223372036854775807) :
    Calls Try.prog 17 #[.pointer (some ⟨p, 0, none⟩), .int .i64 0, .int .i64 (i : Int), .int .i64 B, .slice ad ys.length cy] w (AfterR w p S (0, ({ D with lit := true, fuse := n - 1 } : DM).set i { has := true, b := (D.f i).b ++ ys, safe := (D.f i).safe })) := by
  have h26 := h.c26
  rw [hl] at h26
  have h7 : ¬ (7 : Int) < i := by omega
  have h8 : (i : Int) < 8 := by omega
  have h25 := h.c25
  have f25 := h.frozen 25
  have f26 := h.frozen 26
  have hcap := h.ok.cap
  have hlen := D.set_len i hi
  unfold maxLen at hycm
  have hle : ¬ ((D.cap : Int) - D.used 8 < ys.length) := by omega
  obtain ⟨a, c, hv, hby, hc1, hc2, hnc⟩ := h.bytes i hi
  have x1 := h.val i hi
  rw [hv] at x1
  have x2 := h.safe i hi
  have hsl := h.ok.safe i hi
  unfold maxLen at hc2
  rw [hz] at h25
  have hn0 : ((n : Int) == 0) = false := by simp; omega
  have hn1 : (0 : Int) < n := by omega
  have hn8 : (n : Int) ≤ 9223372036854775807 := by omega
  clear hz
  clear hl hv
  go_enter Try.func17, Try.ntmps17
  go_wp2_with fail
  refine (rroom_in h).mono ?_
  rintro e w1 ⟨rfl, rfl⟩
  go_wp2_with fail
  go_quiet (fail)
  go_wp2_with fail
  have hW := (h.drewN nq).fused true (n - 1) ((n : Int) - 1) (by simp; omega) (by omega)
  have uW : Upd S w ((w.drewN nq).setCell ⟨p, 25, none⟩ (.int .i64 ((n : Int) - 1))) := ((Upd.refl S w).drewN nq).setCell (p := ⟨p, 25, none⟩) (.inl h.own) _
  have hvW : ((w.drewN nq).setCell ⟨p, 25, none⟩ (.int .i64 ((n : Int) - 1))).cell? ⟨p, 1 + i * 3 + 1, none⟩ = some (.slice a (D.f i).b.length c) := by rw [cell_other (by omega)]; exact x1
  have y2 : ((w.drewN nq).setCell ⟨p, 25, none⟩ (.int .i64 ((n : Int) - 1))).cell? ⟨p, 1 + i * 3 + 2, none⟩ = some (.int .i64 ((D.f i).safe : Int)) := by rw [cell_other (by omega)]; exact x2
  have hyW : IsBytes ((w.drewN nq).setCell ⟨p, 25, none⟩ (.int .i64 ((n : Int) - 1))) ad ys := hyb.upd uW hys
  have hbW : IsBytes ((w.drewN nq).setCell ⟨p, 25, none⟩ (.int .i64 ((n : Int) - 1))) a (D.f i).b := by
    obtain ⟨a2, c2, hv2, hby2, _⟩ := hW.bytes i hi
    have e2 := hW.val i hi
    rw [hvW, hv2] at e2
    injection e2 with e2
    injection e2 with e2 _ _
    rw [e2]; exact hby2
  have y1 := hvW
  have sW : ((w.drewN nq).setCell ⟨p, 25, none⟩ (.int .i64 ((n : Int) - 1))).heap.size = w.heap.size := by rw [setCell_size]; rfl
  clear x1 x2 h25 h26 f25 f26 hvW
  generalize (w.drewN nq).setCell ⟨p, 25, none⟩ (.int .i64 ((n : Int) - 1)) = W at *
  go_wp2_with fail
  have SW := Lib.hid sW
  clear sW
  have hpW := hW.lt p hW.own
  have yA : (W.alloc (.cells #[] 5)).cell? ⟨p, 1 + i * 3 + 1, none⟩ = some (.slice a (D.f i).b.length c) := by rw [World.cell?_alloc_past _ _ _ hpW]; exact y1
  have yB : (W.alloc (.cells #[] 5)).cell? ⟨p, 1 + i * 3 + 2, none⟩ = some (.int .i64 ((D.f i).safe : Int)) := by rw [World.cell?_alloc_past _ _ _ hpW]; exact y2
  have happ1 : (D.f i).b.length ≤ 140737488355328 := by omega
  have happ2 : (D.f i).b.length + ys.length ≤ 140737488355328 := by omega
  go_region_law (first
    | (refine step_append_new (by rfl) _ _ 31 (by rfl) Try.underlying31 u8_info (by kernel_rfl) a (D.f i).b (D.f i).b.length rfl c (by kernel_rfl) hbW hnc happ1 ?_; intro a' c' w1 hr1 hb1; have hd1 := hW.below hb1; have v2 := hd1.safe i hi)
    | (refine step_append_next (W := W) (by rfl) _ _ 31 (by rfl) Try.underlying31 u8_info a' (D.f i).b.length c' (D.f i).b (by kernel_rfl) hr1 hb1 ad ys ys.length rfl cy (by kernel_rfl) hyW hyn happ2 ?_; intro a2 c2' w2 hr2 hb2; have hd2 := hW.below hb2; have u2 := hd2.safe i hi; have z0 := hd2.has i hi; have z1 := hd2.val i hi; have f0 := hd2.frozen (1 + i * 3); have f1 := hd2.frozen (1 + i * 3 + 1); have f2 := hd2.frozen (1 + i * 3 + 2)))
  all_goals
    go_wp2
    go_ret
    obtain ⟨V2, h2, uu2⟩ := hW.filed hb2 hi (zs := (D.f i).b ++ ys) (n := (D.f i).b.length + ys.length) (by simp) hr2 (Nat.le_trans hsl (Nat.le_add_right _ _)) (by have h9 : D.used 8 + ys.length ≤ D.cap := hfit; show D.used 8 + ((D.f i).b.length + ys.length) ≤ D.cap + (D.f i).b.length; omega)
    exact ⟨rfl, _, V2, by simpa using h2, by simpa using uW.trans uu2 (fun _ _ x => x), fun k hk => by rw [← SW.out]; exact More_le (by simp) k hk⟩
end Go.Proofs.Ytljoalihioflmaa
