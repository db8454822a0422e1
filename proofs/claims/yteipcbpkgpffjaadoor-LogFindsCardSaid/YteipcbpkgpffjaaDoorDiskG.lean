/-
  The disk of package disk: Cut, Remove. Conditions: those of each theorem ('DiskAt': the pointer leads to a disk that holds D).
-/
import Derived.Test.YteipcbpkgpffjaaDoorDiskF
namespace Go.Proofs.YteipcbpkgpffjaaDoor
open Go.RowKit
set_option maxRecDepth 100000

def DM.cut (D : DM) (A n : Int) : Int × DM :=
  if D.prs A = 0 then
    (if n < 0 ∨ ((D.f A.toNat).b.length : Int) < n then (1, D)
     else if D.spend.1 = 0 then (0, D.spend.2.set A.toNat { has := (D.f A.toNat).has, b := (D.f A.toNat).b.take n.toNat, safe := n.toNat }) else D.spend)
  else (D.prs A, D)

set_option maxHeartbeats 1600000 in
theorem cut_in {w : World} {p : Nat} {S : Nat → Prop} {V : Nat → Value} {D : DM} (h : DiskAt w p S V D) (A n : Int) :
    Calls Tryd.prog 59 #[.pointer (some ⟨p, 0, none⟩), .int .i64 A, .int .i64 n] w (After w p S (D.cut A n)) := by
  have HP := Lib.hid (present_in h A)
  by_cases hq : D.prs A = 0
  · obtain ⟨i, rfl, hi, hhas, hl⟩ := DM.prs_zero hq
    have HQ := Lib.hid hq
    rw [hq] at HP
    have hi8 : (i : Int) < 8 := by omega
    clear hl hhas
    by_cases hr : n < 0 ∨ ((D.f i).b.length : Int) < n
    · have e1 : D.cut i n = (1, D) := by simp only [DM.cut, hq, if_true, Int.toNat_natCast, hr]
      rw [e1]
      clear e1 hq
      by_cases h0 : n < 0
      · clear hr
        go_enter Tryd.func59, Tryd.ntmps59
        go_wp2_with fail
        refine HP.out.mono ?_
        rintro e w1 ⟨rfl, b1⟩
        go_wp2
        go_ret
        exact ⟨rfl, S, V, h.below b1, below_upd S b1, fun k hk => .inl hk⟩
      · have h1 : ((D.f i).b.length : Int) < n := hr.resolve_left h0
        clear hr
        go_enter Tryd.func59, Tryd.ntmps59
        go_wp2_with fail
        refine HP.out.mono ?_
        rintro e w1 ⟨rfl, b1⟩
        have hd1 := h.below b1
        go_wp2_with fail
        refine (size_in hd1 i hi).mono ?_
        rintro e w2 ⟨rfl, b2⟩
        go_wp2
        go_ret
        exact ⟨rfl, S, V, hd1.below b2, (below_upd S b1).trans (below_upd S b2) (fun _ _ x => x), fun k hk => .inl hk⟩
    · have h0 : ¬ n < 0 := fun x => hr (.inl x)
      have h1 : ¬ ((D.f i).b.length : Int) < n := fun x => hr (.inr x)
      obtain ⟨m, rfl⟩ := Int.eq_ofNat_of_zero_le (show 0 ≤ n by omega)
      by_cases hs : D.spend.1 = 0
      · have e1 : D.cut i m = (0, D.spend.2.set i { has := (D.f i).has, b := (D.f i).b.take m, safe := m }) := by
          simp only [DM.cut, hq, if_true, Int.toNat_natCast, hr, if_false, hs]
        rw [e1]
        have HS := Lib.hid hs
        clear e1 hq hr hs
        go_enter Tryd.func59, Tryd.ntmps59
        go_wp2_with fail
        refine HP.out.mono ?_
        rintro e w1 ⟨rfl, b1⟩
        have hd1 := h.below b1
        go_wp2_with fail
        refine (size_in hd1 i hi).mono ?_
        rintro e w2 ⟨rfl, b2⟩
        have hd2 := hd1.below b2
        go_wp2_with fail
        refine (spend_in hd2).mono ?_
        rintro e w3 ⟨rfl, h3, u3⟩
        rw [HS.out]
        obtain ⟨a, c, hv, hc1, hc2, hc3⟩ := hd2.slice' i hi
        have hx := h3.val i hi
        rw [hv] at hx
        obtain ⟨V4, h4⟩ := h3.held hi (m := m) (by rw [D.spend_f.1]; omega) (a := a) (c := c) (by rw [D.spend_f.1]; exact hv)
        have HX := Lib.hid (hold_in p (1 + i * 3) a _ m c _ w3 (by omega) hc1 hc2 hc3 hx (h3.safe i hi) (h3.frozen _) (h3.frozen _))
        clear hv hc3
        go_wp2_with fail
        refine HX.out.mono ?_
        rintro e w4 ⟨rfl, rfl⟩
        go_wp2
        go_ret
        rw [D.spend_f.1] at h4
        exact ⟨rfl, S, V4, h4, ((((below_upd S b1).trans (below_upd S b2) (fun _ _ x => x)).trans u3 (fun k _ hk => by rw [hk]; exact h.own)).setCell (p := ⟨p, _, none⟩) (.inl h.own) _).setCell (p := ⟨p, _, none⟩) (.inl h.own) _, fun k hk => .inl hk⟩
      · have hs6 : D.spend.1 = 6 := (D.spend_or).resolve_left hs
        have e1 : D.cut i m = (6, D.spend.2) := by
          simp only [DM.cut, hq, if_true, Int.toNat_natCast, hr, if_false, hs]
          exact Prod.ext hs6 rfl
        rw [e1]
        have HS := Lib.hid hs6
        clear e1 hq hr hs hs6
        go_enter Tryd.func59, Tryd.ntmps59
        go_wp2_with fail
        refine HP.out.mono ?_
        rintro e w1 ⟨rfl, b1⟩
        have hd1 := h.below b1
        go_wp2_with fail
        refine (size_in hd1 i hi).mono ?_
        rintro e w2 ⟨rfl, b2⟩
        have hd2 := hd1.below b2
        go_wp2_with fail
        refine (spend_in hd2).mono ?_
        rintro e w3 ⟨rfl, h3, u3⟩
        rw [HS.out]
        go_wp2
        go_ret
        exact ⟨rfl, S, V, h3, ((below_upd S b1).trans (below_upd S b2) (fun _ _ x => x)).trans u3 (fun k _ hk => by rw [hk]; exact h.own), fun k hk => .inl hk⟩
  · have hb : (D.prs A != 0) = true := by simpa using hq
    have e1 : D.cut A n = (D.prs A, D) := by simp [DM.cut, hq]
    rw [e1]
    clear e1 hq
    go_enter Tryd.func59, Tryd.ntmps59
    go_wp2_with (go_at_call 50; refine HP.out.mono ?_; rintro e w1 ⟨rfl, b1⟩)
    go_ret
    exact ⟨rfl, S, V, h.below b1, below_upd S b1, fun k hk => .inl hk⟩

def FM.gone : FM := { has := false, b := [], safe := 0 }
def DM.remove (D : DM) (A : Int) : Int × DM := if D.prs A = 0 then (if D.spend.1 = 0 then (0, D.spend.2.set A.toNat FM.gone) else D.spend) else (D.prs A, D)

/-- A file's three cells are stored over: the file is gone. -/
theorem DiskAt.gone {w : World} {p : Nat} {S : Nat → Prop} {V : Nat → Value} {D : DM} (h : DiskAt w p S V D) {i : Nat} (hi : i < 8) :
    ∃ V', DiskAt (((w.setCell ⟨p, 1 + i * 3, none⟩ (.bool false)).setCell ⟨p, 1 + i * 3 + 1, none⟩ (.slice none 0 0)).setCell ⟨p, 1 + i * 3 + 2, none⟩ (.int .i64 0)) p S V' (D.set i FM.gone) := by
  have hu : Upd (fun k => k = p) w (((w.setCell ⟨p, 1 + i * 3, none⟩ (.bool false)).setCell ⟨p, 1 + i * 3 + 1, none⟩ (.slice none 0 0)).setCell ⟨p, 1 + i * 3 + 2, none⟩ (.int .i64 0)) :=
    (((Upd.refl (fun k => k = p) w).setCell (p := ⟨p, _, none⟩) (.inl rfl) _).setCell (p := ⟨p, _, none⟩) (.inl rfl) _).setCell (p := ⟨p, _, none⟩) (.inl rfl) _
  have h1 := h.put (w' := ((w.setCell ⟨p, 1 + i * 3, none⟩ (.bool false)).setCell ⟨p, 1 + i * 3 + 1, none⟩ (.slice none 0 0)).setCell ⟨p, 1 + i * 3 + 2, none⟩ (.int .i64 0)) hi FM.gone (.slice none 0 0)
    (hu.mono (fun k _ hk => .inl hk))
    (by
      obtain ⟨cur, e1, e2⟩ := h.blk
      exact ⟨_, setCell_heap_at (setCell_heap_at (setCell_heap_at e1)), by simpa using e2⟩)
    (fun o ho => by rw [cell_other (by omega), cell_other (by omega), cell_other (by omega)])
    (by rw [cell_other (by omega), cell_other (by omega)]; exact cell_same (h.has i hi))
    (by rw [cell_other (by omega)]; exact cell_same (by rw [cell_other (by omega)]; exact h.val i hi))
    (cell_same (by rw [cell_other (by omega), cell_other (by omega)]; exact h.safe i hi))
    (World.ownsRow_nil _ _ _ _)
    (fun g hg => by cases hg)
    (h.ok.set hi (Nat.le_refl _) (fun _ => ⟨rfl, rfl⟩) (by have := h.ok.used; simp [FM.gone]; omega))
  have hS : More S w (((w.setCell ⟨p, 1 + i * 3, none⟩ (.bool false)).setCell ⟨p, 1 + i * 3 + 1, none⟩ (.slice none 0 0)).setCell ⟨p, 1 + i * 3 + 2, none⟩ (.int .i64 0)) = S := by
    funext k
    simp only [More, setCell_size]
    exact propext ⟨fun x => x.elim id (fun y => by omega), .inl⟩
  rw [hS] at h1
  exact ⟨_, h1⟩

set_option maxHeartbeats 1600000 in
theorem remove_in {w : World} {p : Nat} {S : Nat → Prop} {V : Nat → Value} {D : DM} (h : DiskAt w p S V D) (A : Int) :
    Calls Tryd.prog 67 #[.pointer (some ⟨p, 0, none⟩), .int .i64 A] w (After w p S (D.remove A)) := by
  have HP := Lib.hid (present_in h A)
  by_cases hq : D.prs A = 0
  · obtain ⟨i, rfl, hi, hhas, hl⟩ := DM.prs_zero hq
    have HQ := Lib.hid hq
    rw [hq] at HP
    have hi8 : (i : Int) < 8 := by omega
    clear hl hhas
    by_cases hs : D.spend.1 = 0
    · have e1 : D.remove i = (0, D.spend.2.set i FM.gone) := by simp only [DM.remove, hq, if_true, Int.toNat_natCast, hs]
      rw [e1]
      have HS := Lib.hid hs
      clear e1 hq hs
      go_enter Tryd.func67, Tryd.ntmps67
      go_wp2_with fail
      refine HP.out.mono ?_
      rintro e w1 ⟨rfl, b1⟩
      have hd1 := h.below b1
      go_wp2_with fail
      refine (spend_in hd1).mono ?_
      rintro e w3 ⟨rfl, h3, u3⟩
      rw [HS.out]
      obtain ⟨V4, h4⟩ := h3.gone hi
      have x0 := h3.has i hi
      have x1 := h3.val i hi
      have x2 := h3.safe i hi
      have f0 := h3.frozen (1 + i * 3)
      have f1 := h3.frozen (1 + i * 3 + 1)
      have f2 := h3.frozen (1 + i * 3 + 2)
      go_wp2
      go_ret
      exact ⟨rfl, S, V4, h4, ((((below_upd S b1).trans u3 (fun k _ hk => by rw [hk]; exact h.own)).setCell (p := ⟨p, _, none⟩) (.inl h.own) _).setCell (p := ⟨p, _, none⟩) (.inl h.own) _).setCell (p := ⟨p, _, none⟩) (.inl h.own) _, fun k hk => .inl hk⟩
    · have hs6 : D.spend.1 = 6 := (D.spend_or).resolve_left hs
      have e1 : D.remove i = (6, D.spend.2) := by
        simp only [DM.remove, hq, if_true, hs, if_false]
        exact Prod.ext hs6 rfl
      rw [e1]
      have HS := Lib.hid hs6
      clear e1 hq hs hs6
      go_enter Tryd.func67, Tryd.ntmps67
      go_wp2_with fail
      refine HP.out.mono ?_
      rintro e w1 ⟨rfl, b1⟩
      have hd1 := h.below b1
      go_wp2_with fail
      refine (spend_in hd1).mono ?_
      rintro e w3 ⟨rfl, h3, u3⟩
      rw [HS.out]
      go_wp2
      go_ret
      exact ⟨rfl, S, V, h3, (below_upd S b1).trans u3 (fun k _ hk => by rw [hk]; exact h.own), fun k hk => .inl hk⟩
  · have hb : (D.prs A != 0) = true := by simpa using hq
    have e1 : D.remove A = (D.prs A, D) := by simp [DM.remove, hq]
    rw [e1]
    clear e1 hq
    go_enter Tryd.func67, Tryd.ntmps67
    go_wp2_with (go_at_call 50; refine HP.out.mono ?_; rintro e w1 ⟨rfl, b1⟩)
    go_ret
    exact ⟨rfl, S, V, h.below b1, below_upd S b1, fun k hk => .inl hk⟩
end Go.Proofs.YteipcbpkgpffjaaDoor
