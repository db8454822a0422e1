/-
  The disk of package disk: Sync, Cut, Remove, Fuse. Conditions: those of each theorem ('DiskAt': the pointer leads to a disk that holds D).
-/
import Derived.Test.YteipcbpkgpffjaaDoorDiskC
import Derived.StillTailTactics
namespace Go.Proofs.YteipcbpkgpffjaaDoor
open Go.RowKit
set_option maxRecDepth 100000

/-- What a change leaves: its answer, the disk, and nothing else turned. -/
def After (w : World) (p : Nat) (S : Nat → Prop) (r : Int × DM) (e : Ending) (w' : World) : Prop :=
  e = .returned (.int .i64 r.1) ∧ ∃ S' V', DiskAt w' p S' V' r.2 ∧ Upd S w w' ∧ ∀ k, S' k → S k ∨ (w.heap.size ≤ k ∧ k < w'.heap.size)

theorem DiskAt.below {w w' : World} {p : Nat} {S : Nat → Prop} {V : Nat → Value} {D : DM} (h : DiskAt w p S V D) (hb : Below w.heap.size w w') : DiskAt w' p S V D :=
  h.upd (T := fun _ => False) (Upd.below hb) (fun _ _ x => x)

theorem DiskAt.drew {w : World} {p : Nat} {S : Nat → Prop} {V : Nat → Value} {D : DM} (h : DiskAt w p S V D) : DiskAt w.drew p S V D :=
  h.upd (T := fun _ => False) ((Upd.refl _ _).drew) (fun _ _ x => x)
theorem After.same {w w' : World} {p : Nat} {S : Nat → Prop} {V : Nat → Value} {D : DM} (h : DiskAt w p S V D) (hu : Upd (fun k => k = p) w w') {c : Int} {D' : DM} (h' : DiskAt w' p S V D') : After w p S (c, D') (.returned (.int .i64 c)) w' :=
  ⟨rfl, S, V, h', hu.mono (fun k _ hk => by rw [hk]; exact h.own), fun k hk => .inl hk⟩

theorem DM.prs_zero {D : DM} {A : Int} (h : D.prs A = 0) : ∃ i : Nat, A = i ∧ i < 8 ∧ (D.f i).has = true ∧ D.lost = false := by
  unfold DM.prs at h
  split at h
  · cases h
  · rename_i hl
    split at h
    · rename_i hr
      split at h
      · rename_i hh
        obtain ⟨h0, h8⟩ : 0 ≤ A ∧ A < 8 := by simpa [inRange] using hr
        obtain ⟨i, rfl⟩ := Int.eq_ofNat_of_zero_le h0
        exact ⟨i, rfl, by omega, by simpa using hh, by simpa using hl⟩
      · cases h
    · cases h

theorem own_same {a : Option Addr} {n c m c' g : Nat} (h : (Value.slice a n c).ownBlock = some g) : (Value.slice a m c').ownBlock = some g := by
  cases a with
  | none => cases h
  | some a => exact h
theorem ownsRow_cut {w : World} {base m n : Nat} {e : TypeId} {a : Option Addr} {c : Nat} {xs : List Value} (h : w.ownsRow base e 1 (.slice a n c) n xs) (hm : m ≤ n) : w.ownsRow base e 1 (.slice a m c) m (xs.take m) := by
  obtain ⟨hl, h2⟩ := h
  refine ⟨by simp [hl]; omega, ?_⟩
  rcases h2 with ⟨hv, hn⟩ | ⟨g, cap, cur, hv, hb, hg, hnc, hcm, hcs, ht⟩
  · injection hv with h1 h2 h3
    obtain rfl : m = 0 := by omega
    exact .inl ⟨by rw [h1, h3], rfl⟩
  · injection hv with h1 h2 h3
    refine .inr ⟨g, cap, cur, by rw [h1, h3], hb, hg, by omega, hcm, hcs, ?_⟩
    rw [← ht, List.take_take]
    congr 1
    omega

theorem DiskAt.slice' {w : World} {p : Nat} {S : Nat → Prop} {V : Nat → Value} {D : DM} (h : DiskAt w p S V D) (i : Nat) (hi : i < 8) :
    ∃ a c, V i = .slice a (D.f i).b.length c ∧ (D.f i).b.length ≤ c ∧ c ≤ maxLen ∧ (a = none → (D.f i).b.length = 0 ∧ c = 0) := by
  rcases (h.row i hi).2 with ⟨h1, h2⟩ | ⟨g, cap, cur, hv, _, _, h3, h4, _⟩
  · exact ⟨none, 0, by rw [h1, h2], by omega, Nat.zero_le _, fun _ => ⟨h2, rfl⟩⟩
  · exact ⟨_, _, hv, h3, h4, fun x => by cases x⟩

theorem DM.set_len (D : DM) (i : Nat) (hi : i < 8) : (D.f i).b.length ≤ D.used 8 := by
  have h1 := D.used_mono 8 (i + 1) (by omega)
  have h2 : D.used (i + 1) = D.used i + (D.f i).b.length := rfl
  omega

theorem DiskAt.held {w : World} {p : Nat} {S : Nat → Prop} {V : Nat → Value} {D : DM} (h : DiskAt w p S V D) {i : Nat} (hi : i < 8) {m : Nat} (hm : m ≤ (D.f i).b.length) {a : Option Addr} {c : Nat} (hv : V i = .slice a (D.f i).b.length c) :
    ∃ V', DiskAt ((w.setCell ⟨p, 1 + i * 3 + 1, none⟩ (.slice a m c)).setCell ⟨p, 1 + i * 3 + 2, none⟩ (.int .i64 (m : Int))) p S V'
      (D.set i { has := (D.f i).has, b := (D.f i).b.take m, safe := m }) := by
  have hx := h.val i hi
  have hr := h.row i hi
  rw [hv] at hr
  have hlen : ((D.f i).b.take m).length = m := by simp; omega
  have hu : Upd (fun k => k = p) w ((w.setCell ⟨p, 1 + i * 3 + 1, none⟩ (.slice a m c)).setCell ⟨p, 1 + i * 3 + 2, none⟩ (.int .i64 (m : Int))) :=
    ((Upd.refl (fun k => k = p) w).setCell (p := ⟨p, _, none⟩) (.inl rfl) _).setCell (p := ⟨p, _, none⟩) (.inl rfl) _
  have h1 := h.put (w' := (w.setCell ⟨p, 1 + i * 3 + 1, none⟩ (.slice a m c)).setCell ⟨p, 1 + i * 3 + 2, none⟩ (.int .i64 (m : Int))) hi { has := (D.f i).has, b := (D.f i).b.take m, safe := m } (.slice a m c)
    (hu.mono (fun k _ hk => .inl hk))
    (by
      obtain ⟨cur, e1, e2⟩ := h.blk
      exact ⟨_, setCell_heap_at (setCell_heap_at e1), by simpa using e2⟩)
    (fun o ho => by rw [cell_other (by omega), cell_other (by omega)])
    (by rw [cell_other (by omega), cell_other (by omega)]; exact h.has i hi)
    (by rw [cell_other (by omega)]; exact cell_same hx)
    (cell_same (by rw [cell_other (by omega)]; exact h.safe i hi))
    (by
      have h2 := ownsRow_upd (ownsRow_cut hr hm) hu (fun g hg => by
        have : (V i).ownBlock = some g := by rw [hv]; exact own_same hg
        exact (h.mine i hi g this).2)
      simp only [hlen, List.map_take]
      exact h2)
    (fun g hg => .inl (by rw [hv]; exact own_same hg))
    (h.ok.set hi (by simp only [hlen]; exact Nat.le_refl _) (fun hf => by
      obtain ⟨e1, e2⟩ := h.ok.none i hi hf
      have : m = 0 := by rw [e1] at hm; simpa using hm
      exact ⟨by simp [this], this⟩) (by simp only [hlen]; have := h.ok.used; omega))
  have hS : More S w ((w.setCell ⟨p, 1 + i * 3 + 1, none⟩ (.slice a m c)).setCell ⟨p, 1 + i * 3 + 2, none⟩ (.int .i64 (m : Int))) = S := by
    funext k
    simp only [More, setCell_size]
    exact propext ⟨fun x => x.elim id (fun y => by omega), .inl⟩
  rw [hS] at h1
  exact ⟨_, h1⟩

def DM.sync (D : DM) (A : Int) : Int × DM :=
  if D.prs A = 0 then (if D.spend.1 = 0 then (0, D.spend.2.set A.toNat { has := (D.f A.toNat).has, b := (D.f A.toNat).b, safe := (D.f A.toNat).b.length }) else D.spend) else (D.prs A, D)

set_option maxHeartbeats 800000 in
theorem sync_in {w : World} {p : Nat} {S : Nat → Prop} {V : Nat → Value} {D : DM} (h : DiskAt w p S V D) (A : Int) :
    Calls Tryd.prog 22 #[.pointer (some ⟨p, 0, none⟩), .int .i64 A] w (After w p S (D.sync A)) := by
  have HP := Lib.hid (present_in h A)
  by_cases hq : D.prs A = 0
  · obtain ⟨i, rfl, hi, hhas, hl⟩ := DM.prs_zero hq
    have HQ := Lib.hid hq
    rw [hq] at HP
    clear hq
    by_cases hs : D.spend.1 = 0
    · have HS := Lib.hid hs
      go_enter Tryd.func22, Tryd.ntmps22
      clear hs hl hhas
      go_wp2_with fail
      refine HP.out.mono ?_
      rintro e w1 ⟨rfl, b1⟩
      have h1 := h.below b1
      go_wp2_with fail
      refine (spend_in h1).mono ?_
      rintro e w2 ⟨rfl, h2, u2⟩
      rw [HS.out]
      have h2 := h2.drew
      have u2 := u2.drew
      obtain ⟨a, c, hv, hc1, hc2, hc3⟩ := h1.slice' i hi
      have hx := h2.val i hi
      rw [hv] at hx
      obtain ⟨V3, h3⟩ := h2.held hi (m := (D.f i).b.length) (by rw [D.spend_f.1]; exact Nat.le_refl _) (a := a) (c := c) (by rw [D.spend_f.1]; exact hv)
      have HX := Lib.hid (hold_in p (1 + i * 3) a _ _ c _ w2.drew (Nat.le_refl _) hc1 hc2 hc3 hx (h2.safe i hi) (h2.frozen _) (h2.frozen _))
      clear hv hc3
      go_wp2_with fail
      have hi8 : (i : Int) < 8 := by omega
      have hi0 : (0 : Int) ≤ (i : Int) := by omega
      go_still_tail 13, (by kernel_rfl)
      change wpList _ _ _ _ _ w2.drew
      generalize w2.drew = w2d at *
      go_wp2_with fail
      refine HX.out.mono ?_
      rintro e w3 ⟨rfl, rfl⟩
      go_wp2
      go_ret
      have e1 : D.sync i = (0, D.spend.2.set i { has := (D.f i).has, b := (D.f i).b, safe := (D.f i).b.length }) := by
        simp [DM.sync, HQ.out, HS.out]
      rw [e1]
      refine ⟨rfl, S, V3, ?_, ?_, fun k hk => .inl hk⟩
      · rw [D.spend_f.1, List.take_length] at h3
        exact h3
      · exact (((below_upd S b1).trans u2 (fun k _ hk => by rw [hk]; exact h.own)).setCell (p := ⟨p, _, none⟩) (.inl h.own) _).setCell (p := ⟨p, _, none⟩) (.inl h.own) _
    · have hs' : (D.spend.1 != 0) = true := by simpa using hs
      have hs6 : D.spend.1 = 6 := (D.spend_or).resolve_left hs
      have HS := Lib.hid hs
      have H6 := Lib.hid hs6
      clear hs hl hhas hs' hs6
      go_enter Tryd.func22, Tryd.ntmps22
      go_wp2_with fail
      refine HP.out.mono ?_
      rintro e w1 ⟨rfl, b1⟩
      have h1 := h.below b1
      go_wp2_with fail
      refine (spend_in h1).mono ?_
      rintro e w2 ⟨rfl, h2, u2⟩
      rw [H6.out]
      go_wp2
      go_ret
      have e1 : D.sync i = (6, D.spend.2) := by
        simp only [DM.sync, HQ.out, HS.out, if_true, if_false]
        exact Prod.ext H6.out rfl
      rw [e1]
      exact ⟨rfl, S, V, h2, (below_upd S b1).trans u2 (fun k _ hk => by rw [hk]; exact h.own), fun k hk => .inl hk⟩
  · have hb : (D.prs A != 0) = true := by simpa using hq
    have e1 : D.sync A = (D.prs A, D) := by simp [DM.sync, hq]
    rw [e1]
    clear e1 hq
    go_enter Tryd.func22, Tryd.ntmps22
    go_wp2_with (go_at_call 50; refine HP.out.mono ?_; rintro e w1 ⟨rfl, b1⟩)
    go_ret
    exact ⟨rfl, S, V, h.below b1, below_upd S b1, fun k hk => .inl hk⟩
end Go.Proofs.YteipcbpkgpffjaaDoor
