/-
  The disk of package disk: Rename. Conditions: those of each theorem ('DiskAt': the pointer leads to a disk that holds D).
-/
import Derived.Test.YteipcbpkgpffjaaDoorDiskG
import Derived.BigRegion
namespace Go.Proofs.YteipcbpkgpffjaaDoor
open Go.RowKit
set_option maxRecDepth 100000

def DM.rename (D : DM) (A B : Int) : Int × DM :=
  if rd D.lost [A, B] = 0 then
    (if (D.f A.toNat).has then
      (if A = B ∨ (D.f A.toNat).safe ≠ (D.f A.toNat).b.length then (1, D)
       else if D.spend.1 = 0 then (0, (D.spend.2.set B.toNat (D.f A.toNat)).set A.toNat FM.gone) else D.spend)
     else (7, D))
  else (rd D.lost [A, B], D)

theorem rd_two {l : Bool} {A B : Int} (h : rd l [A, B] = 0) : l = false ∧ (∃ i : Nat, A = i ∧ i < 8) ∧ ∃ j : Nat, B = j ∧ j < 8 := by
  unfold rd rdy at h
  split at h
  · cases h
  · rename_i hl
    split at h
    · rename_i hr
      obtain ⟨⟨h0, h8⟩, h0', h8'⟩ : (0 ≤ A ∧ A < 8) ∧ 0 ≤ B ∧ B < 8 := by simpa [inRange] using hr
      obtain ⟨i, rfl⟩ := Int.eq_ofNat_of_zero_le h0
      obtain ⟨j, rfl⟩ := Int.eq_ofNat_of_zero_le h0'
      exact ⟨by simpa using hl, ⟨i, rfl, by omega⟩, j, rfl, by omega⟩
    · cases h

theorem DM.moved_used {D : DM} {i j : Nat} (hi : i < 8) (hj : j < 8) (hij : i ≠ j) : ((D.set j (D.f i)).set i FM.gone).used 8 + (D.f j).b.length = D.used 8 := by
  have h1 := D.used_set j (D.f i) 8
  have h2 := (D.set j (D.f i)).used_set i FM.gone 8
  have e : ((D.set j (D.f i)).f i) = D.f i := by simp [DM.set, hij]
  rw [e] at h2
  simp only [hi, hj, if_true, FM.gone, List.length_nil] at h1 h2
  simp only [FM.gone]
  omega

/-- The three cells of one file are stored over another's, and its own are cleared. -/
def moved (w : World) (p i j : Nat) (a : Option Addr) (n c : Nat) (s : Int) : World :=
  (((((w.setCell ⟨p, 1 + j * 3, none⟩ (.bool true)).setCell ⟨p, 1 + j * 3 + 1, none⟩ (.slice a n c)).setCell ⟨p, 1 + j * 3 + 2, none⟩ (.int .i64 s)).setCell ⟨p, 1 + i * 3, none⟩ (.bool false)).setCell ⟨p, 1 + i * 3 + 1, none⟩ (.slice none 0 0)).setCell ⟨p, 1 + i * 3 + 2, none⟩ (.int .i64 0)

theorem DiskAt.moved {w : World} {p : Nat} {S : Nat → Prop} {V : Nat → Value} {D : DM} (h : DiskAt w p S V D) {i j : Nat} (hi : i < 8) (hj : j < 8) (hij : i ≠ j) (hh : (D.f i).has = true) {a : Option Addr} {c : Nat} (hv : V i = .slice a (D.f i).b.length c) :
    ∃ V', DiskAt (moved w p i j a (D.f i).b.length c (D.f i).safe) p S V' ((D.set j (D.f i)).set i FM.gone) ∧ Upd (fun k => k = p) w (moved w p i j a (D.f i).b.length c (D.f i).safe) := by
  have hu : Upd (fun k => k = p) w (Go.Proofs.YteipcbpkgpffjaaDoor.moved w p i j a (D.f i).b.length c (D.f i).safe) :=
    ((((((Upd.refl (fun k => k = p) w).setCell (p := ⟨p, _, none⟩) (.inl rfl) _).setCell (p := ⟨p, _, none⟩) (.inl rfl) _).setCell (p := ⟨p, _, none⟩) (.inl rfl) _).setCell (p := ⟨p, _, none⟩) (.inl rfl) _).setCell (p := ⟨p, _, none⟩) (.inl rfl) _).setCell (p := ⟨p, _, none⟩) (.inl rfl) _
  have hne : i < j ∨ j < i := by omega
  have far : ∀ o, (o < 1 + i * 3 ∨ 1 + i * 3 + 3 ≤ o) → (o < 1 + j * 3 ∨ 1 + j * 3 + 3 ≤ o) → (Go.Proofs.YteipcbpkgpffjaaDoor.moved w p i j a (D.f i).b.length c (D.f i).safe).cell? ⟨p, o, none⟩ = w.cell? ⟨p, o, none⟩ := by
    intro o h1 h2
    unfold Go.Proofs.YteipcbpkgpffjaaDoor.moved
    rw [cell_other (by omega), cell_other (by omega), cell_other (by omega), cell_other (by omega), cell_other (by omega), cell_other (by omega)]
  refine ⟨fun k => if k = i then .slice none 0 0 else if k = j then V i else V k, ⟨⟨h.ok.cap, ?_, ?_, ?_, h.ok.fuse⟩, h.own, ?_, ?_, ?_, ?_, ?_, ?_, ?_, ?_, ?_, ?_, ?_, ?_⟩, hu⟩
  · have := DM.moved_used (D := D) hi hj hij; have := h.ok.used; show ((D.set j (D.f i)).set i FM.gone).used 8 ≤ D.cap; omega
  · intro k hk
    by_cases e1 : k = i
    · subst e1; simp [DM.set, FM.gone]
    · by_cases e2 : k = j
      · subst e2; simp only [DM.set, e1, if_true, if_false]; exact h.ok.safe i hi
      · simp only [DM.set, e1, e2, if_false]; exact h.ok.safe k hk
  · intro k hk
    by_cases e1 : k = i
    · subst e1; simp [DM.set, FM.gone]
    · by_cases e2 : k = j
      · subst e2; simp only [DM.set, e1, if_true, if_false]; exact h.ok.none i hi
      · simp only [DM.set, e1, e2, if_false]; exact h.ok.none k hk
  · intro k hk; exact Nat.lt_of_lt_of_le (h.lt k hk) hu.size
  · obtain ⟨cur, e1, e2⟩ := h.blk
    exact ⟨_, setCell_heap_at (setCell_heap_at (setCell_heap_at (setCell_heap_at (setCell_heap_at (setCell_heap_at e1))))), by simpa using e2⟩
  · rw [far 0 (by omega) (by omega)]; exact h.c0
  · intro k hk
    by_cases e1 : k = i
    · subst e1
      simp only [DM.set, if_true, FM.gone]
      unfold Go.Proofs.YteipcbpkgpffjaaDoor.moved
      rw [cell_other (by omega), cell_other (by omega)]
      exact cell_same (by rw [cell_other (by omega), cell_other (by omega), cell_other (by omega)]; exact h.has k hk)
    · by_cases e2 : k = j
      · subst e2
        simp only [DM.set, e1, if_true, if_false]
        unfold Go.Proofs.YteipcbpkgpffjaaDoor.moved
        rw [cell_other (by omega), cell_other (by omega), cell_other (by omega), cell_other (by omega), cell_other (by omega), hh]
        exact cell_same (h.has k hk)
      · simp only [DM.set, e1, e2, if_false]
        rw [far _ (by omega) (by omega)]; exact h.has k hk
  · intro k hk
    by_cases e1 : k = i
    · subst e1
      simp only [if_true]
      unfold Go.Proofs.YteipcbpkgpffjaaDoor.moved
      rw [cell_other (by omega)]
      exact cell_same (by rw [cell_other (by omega), cell_other (by omega), cell_other (by omega), cell_other (by omega)]; exact h.val k hk)
    · by_cases e2 : k = j
      · subst e2
        simp only [e1, if_true, if_false]
        unfold Go.Proofs.YteipcbpkgpffjaaDoor.moved
        rw [cell_other (by omega), cell_other (by omega), cell_other (by omega), cell_other (by omega), hv]
        exact cell_same (by rw [cell_other (by omega)]; exact h.val k hk)
      · simp only [e1, e2, if_false]
        rw [far _ (by omega) (by omega)]; exact h.val k hk
  · intro k hk
    by_cases e1 : k = i
    · subst e1
      simp only [DM.set, if_true, FM.gone]
      unfold Go.Proofs.YteipcbpkgpffjaaDoor.moved
      exact cell_same (by rw [cell_other (by omega), cell_other (by omega), cell_other (by omega), cell_other (by omega), cell_other (by omega)]; exact h.safe k hk)
    · by_cases e2 : k = j
      · subst e2
        simp only [DM.set, e1, if_true, if_false]
        unfold Go.Proofs.YteipcbpkgpffjaaDoor.moved
        rw [cell_other (by omega), cell_other (by omega), cell_other (by omega)]
        exact cell_same (by rw [cell_other (by omega), cell_other (by omega)]; exact h.safe k hk)
      · simp only [DM.set, e1, e2, if_false]
        rw [far _ (by omega) (by omega)]; exact h.safe k hk
  · rw [far 25 (by omega) (by omega)]; exact h.c25
  · rw [far 26 (by omega) (by omega)]; exact h.c26
  · rw [far 27 (by omega) (by omega)]; exact h.c27
  · intro k hk
    by_cases e1 : k = i
    · subst e1; simp only [DM.set, if_true, FM.gone]; exact World.ownsRow_nil _ _ _ _
    · by_cases e2 : k = j
      · subst e2; simp only [DM.set, e1, if_true, if_false]
        exact ownsRow_upd (h.row i hi) hu (fun g hg => (h.mine i hi g hg).2)
      · simp only [DM.set, e1, e2, if_false]
        exact ownsRow_upd (h.row k hk) hu (fun g hg => (h.mine k hk g hg).2)
  · intro k hk g
    by_cases e1 : k = i
    · simp only [e1, if_true]; intro hg; cases hg
    · by_cases e2 : k = j
      · have e3 : ¬ j = i := fun x => hij x.symm
        simp only [e2, e3, if_true, if_false]; exact h.mine i hi g
      · simp only [e1, e2, if_false]; exact h.mine k hk g
  · intro k l hk hl hkl g
    by_cases e1 : k = i
    · simp only [e1, if_true]; intro hg; cases hg
    · by_cases e3 : l = i
      · simp only [e3, if_true]; intro _ hg; cases hg
      · simp only [e1, e3, if_false]
        by_cases e2 : k = j
        · by_cases e4 : l = j
          · omega
          · simp only [e2, e4, if_true, if_false]; exact h.apart i l hi hl (fun x => e3 x.symm) g
        · by_cases e4 : l = j
          · simp only [e2, e4, if_true, if_false]; exact h.apart k i hk hi e1 g
          · simp only [e2, e4, if_false]; exact h.apart k l hk hl hkl g

set_option maxHeartbeats 1600000 in
theorem rename_in {w : World} {p : Nat} {S : Nat → Prop} {V : Nat → Value} {D : DM} (h : DiskAt w p S V D) (A B : Int) :
    Calls Tryd.prog 66 #[.pointer (some ⟨p, 0, none⟩), .int .i64 A, .int .i64 B] w (After w p S (D.rename A B)) := by
  have hp : p < w.heap.size := h.lt p h.own
  have h27a : ∀ o, (w.alloc o).cell? ⟨p, 27, none⟩ = some (.bool D.lost) := fun o => by rw [World.cell?_alloc_past _ _ _ hp]; exact h.c27
  have b1 : Below w.heap.size w (w.alloc (.cells #[.int .i64 A, .int .i64 B] 3)) := (Below.refl _ _).alloc (Nat.le_refl _) _
  have hd1 := h.below b1
  have HR := Lib.hid (ready2 p w.heap.size D.lost A B (w.alloc (.cells #[.int .i64 A, .int .i64 B] 3)) (h27a _) (by simp) (by simp))
  by_cases hq : rd D.lost [A, B] = 0
  · obtain ⟨hl, ⟨i, rfl, hi⟩, j, rfl, hj⟩ := rd_two hq
    have HQ := Lib.hid hq
    have hi8 : (i : Int) < 8 := by omega
    have hj8 : (j : Int) < 8 := by omega
    clear h27a
    by_cases hh : (D.f i).has = true
    · have HH := Lib.hid hh
      by_cases hbad : (i : Int) = j ∨ (D.f i).safe ≠ (D.f i).b.length
      · have e1 : D.rename i j = (1, D) := by simp only [DM.rename, hq, if_true, Int.toNat_natCast, hh, hbad]
        rw [e1]
        clear e1 hq hl hh
        by_cases hij : (i : Int) = j
        · have hb := beq_iff_eq.2 hij
          clear hij hbad
          go_enter Tryd.func66, Tryd.ntmps66
          go_wp2_with fail
          refine HR.out.mono ?_
          rintro e w1 ⟨rfl, rfl⟩
          rw [HQ.out]
          go_wp2_with fail
          refine (has_in hd1 i hi).mono ?_
          rintro e w2 ⟨rfl, b2⟩
          rw [HH.out]
          go_wp2
          go_ret
          exact ⟨rfl, S, V, hd1.below b2, (below_upd S b1).trans (below_upd S b2) (fun _ _ x => x), fun k hk => .inl hk⟩
        · have hne : (((D.f i).safe : Int) != ((D.f i).b.length : Int)) = true := by
            rw [bne_iff_ne]; have := hbad.resolve_left hij; omega
          have hb := beq_eq_false_iff_ne.2 hij
          clear hij hbad
          go_enter Tryd.func66, Tryd.ntmps66
          go_wp2_with fail
          refine HR.out.mono ?_
          rintro e w1 ⟨rfl, rfl⟩
          rw [HQ.out]
          go_wp2_with fail
          refine (has_in hd1 i hi).mono ?_
          rintro e w2 ⟨rfl, b2⟩
          rw [HH.out]
          have hd2 := hd1.below b2
          go_wp2_with fail
          refine (safe_in hd2 i hi).mono ?_
          rintro e w3 ⟨rfl, b3⟩
          have hd3 := hd2.below b3
          go_wp2_with fail
          refine (size_in hd3 i hi).mono ?_
          rintro e w4 ⟨rfl, b4⟩
          go_wp2
          go_ret
          exact ⟨rfl, S, V, hd3.below b4, (((below_upd S b1).trans (below_upd S b2) (fun _ _ x => x)).trans (below_upd S b3) (fun _ _ x => x)).trans (below_upd S b4) (fun _ _ x => x), fun k hk => .inl hk⟩
      · have hij : ¬ (i : Int) = j := fun x => hbad (.inl x)
        have hsl : (D.f i).safe = (D.f i).b.length := Classical.byContradiction fun x => hbad (.inr x)
        have hb := beq_eq_false_iff_ne.2 hij
        have hne : (((D.f i).safe : Int) != ((D.f i).b.length : Int)) = false := by rw [hsl]; simp
        have hij' : i ≠ j := by omega
        by_cases hs : D.spend.1 = 0
        · have e1 : D.rename i j = (0, (D.spend.2.set j (D.f i)).set i FM.gone) := by
            simp only [DM.rename, hq, if_true, Int.toNat_natCast, hh, hbad, if_false, hs]
          rw [e1]
          have HS := Lib.hid hs
          clear e1 hq hl hh hij hbad hsl hs
          go_enter Tryd.func66, Tryd.ntmps66
          go_wp2_with fail
          refine HR.out.mono ?_
          rintro e w1 ⟨rfl, rfl⟩
          rw [HQ.out]
          go_wp2_with fail
          refine (has_in hd1 i hi).mono ?_
          rintro e w2 ⟨rfl, b2⟩
          rw [HH.out]
          have hd2 := hd1.below b2
          go_wp2_with fail
          refine (safe_in hd2 i hi).mono ?_
          rintro e w3 ⟨rfl, b3⟩
          have hd3 := hd2.below b3
          go_wp2_with fail
          refine (size_in hd3 i hi).mono ?_
          rintro e w4 ⟨rfl, b4⟩
          have hd4 := hd3.below b4
          go_wp2_with fail
          refine (spend_in hd4).mono ?_
          rintro e w5 ⟨rfl, h5, u5⟩
          rw [HS.out]
          obtain ⟨a, c, hv⟩ := h5.slice i hi
          have x0 := h5.has i hi
          have x1 := h5.val i hi
          have x2 := h5.safe i hi
          have y0 := h5.has j hj
          obtain ⟨aj, cj, hvj⟩ := h5.slice j hj
          have y1 := h5.val j hj
          have y2 := h5.safe j hj
          rw [hv] at x1
          rw [hvj] at y1
          have hh5 : (D.spend.2.f i).has = true := by rw [D.spend_f.1]; exact HH.out
          rw [hh5] at x0
          obtain ⟨V6, h6, u6⟩ := h5.moved hi hj hij' hh5 hv
          have HH5 := Lib.hid hh5
          clear hh5 hv hvj
          have f0 := h5.frozen (1 + i * 3)
          have f1 := h5.frozen (1 + i * 3 + 1)
          have f2 := h5.frozen (1 + i * 3 + 2)
          have g0 := h5.frozen (1 + j * 3)
          have g1 := h5.frozen (1 + j * 3 + 1)
          have g2 := h5.frozen (1 + j * 3 + 2)
          go_wp2_with fail
          go_region
          go_wp2
          go_ret
          have e6 : D.spend.2.f i = D.f i := by rw [D.spend_f.1]
          refine ⟨rfl, S, V6, ?_, ?_, fun k hk => .inl hk⟩
          · rw [← e6]
            exact h6.drew
          · exact (((((((below_upd S b1).trans (below_upd S b2) (fun _ _ x => x)).trans (below_upd S b3) (fun _ _ x => x)).trans (below_upd S b4) (fun _ _ x => x)).trans u5 (fun k _ hk => by rw [hk]; exact h.own))).trans u6 (fun k _ hk => by rw [hk]; exact h.own)).drew
        · have hs6 : D.spend.1 = 6 := (D.spend_or).resolve_left hs
          have e1 : D.rename i j = (6, D.spend.2) := by
            simp only [DM.rename, hq, if_true, Int.toNat_natCast, hh, hbad, if_false, hs]
            exact Prod.ext hs6 rfl
          rw [e1]
          have HS := Lib.hid hs6
          clear e1 hq hl hh hij hbad hsl hs hs6
          go_enter Tryd.func66, Tryd.ntmps66
          go_wp2_with fail
          refine HR.out.mono ?_
          rintro e w1 ⟨rfl, rfl⟩
          rw [HQ.out]
          go_wp2_with fail
          refine (has_in hd1 i hi).mono ?_
          rintro e w2 ⟨rfl, b2⟩
          rw [HH.out]
          have hd2 := hd1.below b2
          go_wp2_with fail
          refine (safe_in hd2 i hi).mono ?_
          rintro e w3 ⟨rfl, b3⟩
          have hd3 := hd2.below b3
          go_wp2_with fail
          refine (size_in hd3 i hi).mono ?_
          rintro e w4 ⟨rfl, b4⟩
          have hd4 := hd3.below b4
          go_wp2_with fail
          refine (spend_in hd4).mono ?_
          rintro e w5 ⟨rfl, h5, u5⟩
          rw [HS.out]
          go_wp2
          go_ret
          exact ⟨rfl, S, V, h5, ((((below_upd S b1).trans (below_upd S b2) (fun _ _ x => x)).trans (below_upd S b3) (fun _ _ x => x)).trans (below_upd S b4) (fun _ _ x => x)).trans u5 (fun k _ hk => by rw [hk]; exact h.own), fun k hk => .inl hk⟩
    · have hh' : (D.f i).has = false := by simpa using hh
      have e1 : D.rename i j = (7, D) := by simp [DM.rename, hq, hh']
      rw [e1]
      have HH := Lib.hid hh'
      clear e1 hq hl hh hh'
      go_enter Tryd.func66, Tryd.ntmps66
      go_wp2_with fail
      refine HR.out.mono ?_
      rintro e w1 ⟨rfl, rfl⟩
      rw [HQ.out]
      go_wp2_with fail
      refine (has_in hd1 i hi).mono ?_
      rintro e w2 ⟨rfl, b2⟩
      rw [HH.out]
      go_wp2
      go_ret
      exact ⟨rfl, S, V, hd1.below b2, (below_upd S b1).trans (below_upd S b2) (fun _ _ x => x), fun k hk => .inl hk⟩
  · have hb : (rd D.lost [A, B] != 0) = true := by simpa using hq
    have e1 : D.rename A B = (rd D.lost [A, B], D) := by simp only [DM.rename, hq, if_false]
    rw [e1]
    clear e1 hq
    go_enter Tryd.func66, Tryd.ntmps66
    go_wp2_with fail
    refine HR.out.mono ?_
    rintro e w1 ⟨rfl, rfl⟩
    go_wp2
    go_ret
    exact ⟨rfl, S, V, hd1, below_upd S b1, fun k hk => .inl hk⟩
end Go.Proofs.YteipcbpkgpffjaaDoor
