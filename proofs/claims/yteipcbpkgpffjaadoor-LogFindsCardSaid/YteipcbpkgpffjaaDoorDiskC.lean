/-
  The disk of package disk: what a change leaves of it; ready, present, spend, hold. Conditions: those of each theorem ('DiskAt': the pointer leads to a disk that holds D).
-/
import Derived.Test.YteipcbpkgpffjaaDoorDiskB
namespace Go.Proofs.YteipcbpkgpffjaaDoor
open Go.RowKit
set_option maxRecDepth 100000

theorem DM.used_set (D : DM) (i : Nat) (x : FM) : ∀ n, (D.set i x).used n + (if i < n then (D.f i).b.length else 0) = D.used n + (if i < n then x.b.length else 0) := by
  intro n
  induction n with
  | zero => simp [DM.used]
  | succ n ih =>
    simp only [DM.used, DM.set] at ih ⊢
    by_cases h1 : n = i
    · subst h1
      simp only [Nat.lt_irrefl, if_false, Nat.lt_succ_self, if_true] at ih ⊢
      omega
    · by_cases h2 : i < n
      · have : i < n + 1 := by omega
        simp only [h1, h2, this, if_true, if_false] at ih ⊢
        omega
      · have : ¬ i < n + 1 := by omega
        simp only [h1, h2, this, if_false] at ih ⊢
        omega

theorem DM.ok.set {D : DM} (h : D.ok) {i : Nat} (hi : i < 8) {x : FM} (hs : x.safe ≤ x.b.length) (hn : x.has = false → x.b = [] ∧ x.safe = 0) (hu : D.used 8 + x.b.length ≤ D.cap + (D.f i).b.length) : (D.set i x).ok := by
  have := D.used_set i x 8
  simp only [hi, if_true] at this
  refine ⟨h.cap, ?_, fun j hj => ?_, fun j hj => ?_, h.fuse⟩
  · show (D.set i x).used 8 ≤ D.cap
    omega
  · simp only [DM.set]; split
    · exact hs
    · exact h.safe j hj
  · simp only [DM.set]; split
    · exact hn
    · exact h.none j hj

theorem DiskAt.put {w w' : World} {p : Nat} {S : Nat → Prop} {V : Nat → Value} {D : DM} (h : DiskAt w p S V D) {i : Nat} (hi : i < 8) (x : FM) (v : Value)
    (hu : Upd (fun k => k = p ∨ (V i).ownBlock = some k) w w')
    (hb : ∃ cur, w'.heap[p]? = some (.cells cur 61 (0, 0)) ∧ cur.size = 28)
    (ho : ∀ o, o < 1 + i * 3 ∨ 1 + i * 3 + 3 ≤ o → w'.cell? ⟨p, o, none⟩ = w.cell? ⟨p, o, none⟩)
    (h0 : w'.cell? ⟨p, 1 + i * 3, none⟩ = some (.bool x.has)) (h1 : w'.cell? ⟨p, 1 + i * 3 + 1, none⟩ = some v) (h2 : w'.cell? ⟨p, 1 + i * 3 + 2, none⟩ = some (.int .i64 (x.safe : Int)))
    (hr : w'.ownsRow 0 5 1 v x.b.length (x.b.map bval))
    (hg : ∀ g, v.ownBlock = some g → (V i).ownBlock = some g ∨ w.heap.size ≤ g)
    (hok : (D.set i x).ok) : DiskAt w' p (More S w w') (fun j => if j = i then v else V j) (D.set i x) := by
  have hp := h.lt p h.own
  have hlt : ∀ j, j < 8 → ∀ g, (V j).ownBlock = some g → g < w.heap.size := fun j hj g hg => h.lt g (h.mine j hj g hg).1
  have hgl : ∀ g, v.ownBlock = some g → g < w'.heap.size := fun g hv => (hr.lt g hv).2
  refine ⟨hok, .inl h.own, ?_, hb, ?_, ?_, ?_, ?_, ?_, ?_, ?_, ?_, ?_, ?_⟩
  · rintro k (hk | hk)
    · exact Nat.lt_of_lt_of_le (h.lt k hk) hu.size
    · exact hk.2
  · rw [ho 0 (by omega)]; exact h.c0
  · intro j hj
    by_cases e : j = i
    · subst e; simp only [DM.set, if_true]; exact h0
    · simp only [DM.set, e, if_false]; rw [ho _ (by omega)]; exact h.has j hj
  · intro j hj
    by_cases e : j = i
    · subst e; simp only [if_true]; exact h1
    · simp only [e, if_false]; rw [ho _ (by omega)]; exact h.val j hj
  · intro j hj
    by_cases e : j = i
    · subst e; simp only [DM.set, if_true]; exact h2
    · simp only [DM.set, e, if_false]; rw [ho _ (by omega)]; exact h.safe j hj
  · rw [ho 25 (by omega)]; exact h.c25
  · rw [ho 26 (by omega)]; exact h.c26
  · rw [ho 27 (by omega)]; exact h.c27
  · intro j hj
    by_cases e : j = i
    · subst e; simp only [DM.set, if_true]; exact hr
    · simp only [DM.set, e, if_false]
      refine ownsRow_upd (h.row j hj) hu ?_
      rintro g hg' (rfl | hk)
      · exact (h.mine j hj g hg').2 rfl
      · exact h.apart i j hi hj (Ne.symm e) g hk hg'
  · intro j hj g hg'
    by_cases e : j = i
    · subst e; simp only [if_true] at hg'
      rcases hg g hg' with hx | hx
      · exact ⟨.inl (h.mine j hj g hx).1, (h.mine j hj g hx).2⟩
      · exact ⟨.inr ⟨hx, hgl g hg'⟩, by omega⟩
    · simp only [e, if_false] at hg'
      exact ⟨.inl (h.mine j hj g hg').1, (h.mine j hj g hg').2⟩
  · intro j k hj hk hjk g
    by_cases e1 : j = i
    · subst e1
      have e2 : ¬ k = j := fun x => hjk x.symm
      simp only [if_true, e2, if_false]
      intro hv hx
      rcases hg g hv with hy | hy
      · exact h.apart j k hj hk hjk g hy hx
      · have := hlt k hk g hx; omega
    · simp only [e1, if_false]
      by_cases e2 : k = i
      · subst e2
        simp only [if_true]
        intro hx hv
        rcases hg g hv with hy | hy
        · exact h.apart j k hj hk hjk g hx hy
        · have := hlt j hj g hx; omega
      · simp only [e2, if_false]
        exact h.apart j k hj hk hjk g

/-- A cell of the disk's own block that is none of its files' is stored into. -/
theorem DiskAt.blk_set {w : World} {p : Nat} {S : Nat → Prop} {V : Nat → Value} {D : DM} (h : DiskAt w p S V D) (o : Nat) (u : Value) :
    ∃ cur, (w.setCell ⟨p, o, none⟩ u).heap[p]? = some (.cells cur 61 (0, 0)) ∧ cur.size = 28 := by
  obtain ⟨cur, h1, h2⟩ := h.blk
  exact ⟨_, setCell_heap_at h1, by simpa using h2⟩

theorem DiskAt.lose {w : World} {p : Nat} {S : Nat → Prop} {V : Nat → Value} {D : DM} (h : DiskAt w p S V D) : DiskAt (w.setCell ⟨p, 27, none⟩ (.bool true)) p S V { D with lost := true } := by
  refine ⟨⟨h.ok.cap, h.ok.used, h.ok.safe, h.ok.none, h.ok.fuse⟩, h.own, fun k hk => by rw [setCell_size]; exact h.lt k hk, h.blk_set 27 _, ?_, ?_, ?_, ?_, ?_, ?_, ?_, ?_, h.mine, h.apart⟩
  · rw [cell_other (by omega)]; exact h.c0
  · intro i hi; rw [cell_other (by omega)]; exact h.has i hi
  · intro i hi; rw [cell_other (by omega)]; exact h.val i hi
  · intro i hi; rw [cell_other (by omega)]; exact h.safe i hi
  · rw [cell_other (by omega)]; exact h.c25
  · rw [cell_other (by omega)]; exact h.c26
  · exact cell_same h.c27
  · intro i hi; exact ownsRow_upd (h.row i hi) (upd_set 27 _) (fun g hg => (h.mine i hi g hg).2)
theorem DiskAt.burn {w : World} {p : Nat} {S : Nat → Prop} {V : Nat → Value} {D : DM} (h : DiskAt w p S V D) (n : Nat) (hn : n ≤ 9223372036854775807) : DiskAt (w.setCell ⟨p, 26, none⟩ (.int .i64 (n : Int))) p S V { D with fuse := n } := by
  refine ⟨⟨h.ok.cap, h.ok.used, h.ok.safe, h.ok.none, hn⟩, h.own, fun k hk => by rw [setCell_size]; exact h.lt k hk, h.blk_set 26 _, ?_, ?_, ?_, ?_, ?_, ?_, ?_, ?_, h.mine, h.apart⟩
  · rw [cell_other (by omega)]; exact h.c0
  · intro i hi; rw [cell_other (by omega)]; exact h.has i hi
  · intro i hi; rw [cell_other (by omega)]; exact h.val i hi
  · intro i hi; rw [cell_other (by omega)]; exact h.safe i hi
  · rw [cell_other (by omega)]; exact h.c25
  · exact cell_same h.c26
  · rw [cell_other (by omega)]; exact h.c27
  · intro i hi; exact ownsRow_upd (h.row i hi) (upd_set 26 _) (fun g hg => (h.mine i hi g hg).2)
theorem DiskAt.light {w : World} {p : Nat} {S : Nat → Prop} {V : Nat → Value} {D : DM} (h : DiskAt w p S V D) (b : Bool) : DiskAt (w.setCell ⟨p, 25, none⟩ (.bool b)) p S V { D with lit := b } := by
  refine ⟨⟨h.ok.cap, h.ok.used, h.ok.safe, h.ok.none, h.ok.fuse⟩, h.own, fun k hk => by rw [setCell_size]; exact h.lt k hk, h.blk_set 25 _, ?_, ?_, ?_, ?_, ?_, ?_, ?_, ?_, h.mine, h.apart⟩
  · rw [cell_other (by omega)]; exact h.c0
  · intro i hi; rw [cell_other (by omega)]; exact h.has i hi
  · intro i hi; rw [cell_other (by omega)]; exact h.val i hi
  · intro i hi; rw [cell_other (by omega)]; exact h.safe i hi
  · exact cell_same h.c25
  · rw [cell_other (by omega)]; exact h.c26
  · rw [cell_other (by omega)]; exact h.c27
  · intro i hi; exact ownsRow_upd (h.row i hi) (upd_set 25 _) (fun g hg => (h.mine i hi g hg).2)

def DM.spend (D : DM) : Int × DM := if D.lit then (if D.fuse = 0 then (6, { D with lost := true }) else (0, { D with fuse := D.fuse - 1 })) else (0, D)

theorem spend_in {w : World} {p : Nat} {S : Nat → Prop} {V : Nat → Value} {D : DM} (h : DiskAt w p S V D) :
    Calls Tryd.prog 48 #[.pointer (some ⟨p, 0, none⟩)] w fun e w' => e = .returned (.int .i64 D.spend.1) ∧ DiskAt w' p S V D.spend.2 ∧ Upd (fun k => k = p) w w' := by
  have h25 := h.c25
  by_cases hl : D.lit = true
  · rw [hl] at h25
    by_cases hf : D.fuse = 0
    · have h26 := h.c26
      rw [hf] at h26
      refine (spend_out p _ w h25 h26 h.c27 (h.frozen 27)).mono ?_
      rintro e w' ⟨rfl, rfl⟩
      refine ⟨by simp [DM.spend, hl, hf], ?_, upd_set _ _⟩
      have e : D.spend.2 = { D with lost := true } := by unfold DM.spend; rw [if_pos hl, if_pos hf]
      rw [e]
      exact h.lose
    · refine (spend_one p D.fuse w (by omega) (by have := h.ok.fuse; omega) h25 h.c26 (h.frozen 26)).mono ?_
      rintro e w' ⟨rfl, rfl⟩
      refine ⟨by simp [DM.spend, hl, hf], ?_, upd_set _ _⟩
      have e : D.spend.2 = { D with fuse := D.fuse - 1 } := by unfold DM.spend; rw [if_pos hl, if_neg hf]
      rw [e]
      have := h.burn (D.fuse - 1) (by have := h.ok.fuse; omega)
      rw [show ((D.fuse - 1 : Nat) : Int) = (D.fuse : Int) - 1 from by omega] at this
      exact this
  · have hl' : D.lit = false := by simpa using hl
    rw [hl'] at h25
    refine (spend_unlit p w h25).mono ?_
    rintro e w' ⟨rfl, rfl⟩
    refine ⟨by simp [DM.spend, hl'], ?_, Upd.refl _ _⟩
    have e : D.spend.2 = D := by unfold DM.spend; rw [if_neg hl]
    rw [e]
    exact h
theorem DM.spend_or (D : DM) : D.spend.1 = 0 ∨ D.spend.1 = 6 := by
  unfold DM.spend
  split
  · split
    · exact .inr rfl
    · exact .inl rfl
  · exact .inl rfl
theorem DM.spend_f (D : DM) : D.spend.2.f = D.f ∧ D.spend.2.cap = D.cap := by
  unfold DM.spend
  split
  · split <;> exact ⟨rfl, rfl⟩
  · exact ⟨rfl, rfl⟩

def rd (lost : Bool) (xs : List Int) : Int := if lost then 6 else rdy xs
theorem ready_in (p : Nat) (l : Bool) (a : Option Addr) (cap : Nat) (xs : List Int) (w : World) (hl : w.cell? ⟨p, 27, none⟩ = some (.bool l)) (hi : IsInts w a xs) (hx : xs.length ≤ 8) :
    Calls Tryd.prog 33 #[.pointer (some ⟨p, 0, none⟩), .slice a xs.length cap] w fun e w' => e = .returned (.int .i64 (rd l xs)) ∧ w = w' := by
  cases l
  · exact ready_lit p a cap xs w hl hi hx
  · exact ready_lost p _ w hl
theorem ready1 (p g : Nat) (l : Bool) (x : Int) (w : World) (hl : w.cell? ⟨p, 27, none⟩ = some (.bool l)) (h0 : w.cell? ⟨g, 0, none⟩ = some (.int .i64 x)) :
    Calls Tryd.prog 33 #[.pointer (some ⟨p, 0, none⟩), .slice (some ⟨g, 0, none⟩) 1 1] w fun e w' => e = .returned (.int .i64 (rd l [x])) ∧ w = w' :=
  ready_in p l _ 1 [x] w hl (.inr ⟨g, 0, rfl, fun i hi => by obtain rfl : i = 0 := by simp at hi; exact hi
                                                             exact h0⟩) (by simp)
theorem ready2 (p g : Nat) (l : Bool) (x y : Int) (w : World) (hl : w.cell? ⟨p, 27, none⟩ = some (.bool l)) (h0 : w.cell? ⟨g, 0, none⟩ = some (.int .i64 x)) (h1 : w.cell? ⟨g, 1, none⟩ = some (.int .i64 y)) :
    Calls Tryd.prog 33 #[.pointer (some ⟨p, 0, none⟩), .slice (some ⟨g, 0, none⟩) 2 2] w fun e w' => e = .returned (.int .i64 (rd l [x, y])) ∧ w = w' :=
  ready_in p l _ 2 [x, y] w hl (.inr ⟨g, 0, rfl, fun i hi => by
    match i, hi with
    | 0, _ => exact h0
    | 1, _ => exact h1⟩) (by simp)
theorem ready0 (p : Nat) (l : Bool) (w : World) (hl : w.cell? ⟨p, 27, none⟩ = some (.bool l)) :
    Calls Tryd.prog 33 #[.pointer (some ⟨p, 0, none⟩), .slice none 0 0] w fun e w' => e = .returned (.int .i64 (rd l [])) ∧ w = w' :=
  ready_in p l _ 0 [] w hl (.inl rfl) (by simp)

/-- What present answers. -/
def DM.prs (D : DM) (A : Int) : Int := if D.lost then 6 else if inRange A then (if (D.f A.toNat).has then 0 else 7) else 1

set_option maxHeartbeats 400000 in
theorem present_in {w : World} {p : Nat} {S : Nat → Prop} {V : Nat → Value} {D : DM} (h : DiskAt w p S V D) (A : Int) :
    Calls Tryd.prog 50 #[.pointer (some ⟨p, 0, none⟩), .int .i64 A] w fun e w' => e = .returned (.int .i64 (D.prs A)) ∧ Below w.heap.size w w' := by
  have hp : p < w.heap.size := World.block_lt_of_cell? _ _ h.c27
  have h27 := h.c27
  by_cases hl : D.lost = true
  · rw [hl] at h27
    have e1 : D.prs A = 6 := by simp [DM.prs, hl]
    rw [e1]
    have e2 : rd true [A] = 6 := rfl
    go_enter Tryd.func50, Tryd.ntmps50
    go_wp2_with (go_at_call 33; refine (ready1 p _ true A _ (by simp [World.cell?_alloc_past, hp, h27]) (by simp)).mono ?_; rintro e w' ⟨rfl, rfl⟩)
    go_ret
    exact ⟨rfl, (Below.refl _ _).alloc (Nat.le_refl _) _⟩
  · have hl' : D.lost = false := by simpa using hl
    rw [hl'] at h27
    by_cases hr : inRange A = true
    · have e2 : rd false [A] = 0 := by simp [rd, rdy, hr]
      obtain ⟨ha0, ha8⟩ : 0 ≤ A ∧ A < 8 := by simpa [inRange] using hr
      obtain ⟨i, rfl⟩ := Int.eq_ofNat_of_zero_le ha0
      have hi : i < 8 := by omega
      have hh := h.has i hi
      by_cases hb : (D.f i).has = true
      · rw [hb] at hh
        have e1 : D.prs i = 0 := by simp [DM.prs, hl', hr, hb]
        rw [e1]
        clear e1 ha0 hr h hl hb
        go_enter Tryd.func50, Tryd.ntmps50
        go_wp2_with (go_at_call 33; refine (ready1 p _ false i _ (by simp [World.cell?_alloc_past, hp, h27]) (by simp)).mono ?_; rintro e w' ⟨rfl, rfl⟩)
        go_ret
        exact ⟨rfl, (Below.refl _ _).alloc (Nat.le_refl _) _⟩
      · have hb' : (D.f i).has = false := by simpa using hb
        rw [hb'] at hh
        have e1 : D.prs i = 7 := by simp [DM.prs, hl', hr, hb']
        rw [e1]
        clear e1 ha0 hr h hl hb hb'
        go_enter Tryd.func50, Tryd.ntmps50
        go_wp2_with (go_at_call 33; refine (ready1 p _ false i _ (by simp [World.cell?_alloc_past, hp, h27]) (by simp)).mono ?_; rintro e w' ⟨rfl, rfl⟩)
        go_ret
        exact ⟨rfl, (Below.refl _ _).alloc (Nat.le_refl _) _⟩
    · have e2 : rd false [A] = 1 := by simp [rd, rdy, hr]
      have e1 : D.prs A = 1 := by simp [DM.prs, hl', hr]
      rw [e1]
      clear e1 hr h hl
      go_enter Tryd.func50, Tryd.ntmps50
      go_wp2_with (go_at_call 33; refine (ready1 p _ false A _ (by simp [World.cell?_alloc_past, hp, h27]) (by simp)).mono ?_; rintro e w' ⟨rfl, rfl⟩)
      go_ret
      exact ⟨rfl, (Below.refl _ _).alloc (Nat.le_refl _) _⟩

set_option maxHeartbeats 400000 in
/-- hold: the bytes are cut, and all that is left is safe. -/
theorem hold_in (p o : Nat) (a : Option Addr) (n m c : Nat) (v2 : Value) (w : World) (hm : m ≤ n) (hn : n ≤ c) (hc : c ≤ maxLen) (hnil : a = none → n = 0 ∧ c = 0) (h1 : w.cell? ⟨p, o + 1, none⟩ = some (.slice a n c)) (h2 : w.cell? ⟨p, o + 2, none⟩ = some v2)
    (f1 : w.frozen? ⟨p, o + 1, none⟩ = false) (f2 : w.frozen? ⟨p, o + 2, none⟩ = false) :
    Calls Tryd.prog 34 #[.pointer (some ⟨p, o, none⟩), .int .i64 (m : Int)] w fun e w' => e = .returned (.tuple #[]) ∧
      (w.setCell ⟨p, o + 1, none⟩ (.slice a m c)).setCell ⟨p, o + 2, none⟩ (.int .i64 (m : Int)) = w' := by
  unfold maxLen at hc
  cases a with
  | none =>
    obtain ⟨rfl, rfl⟩ := hnil rfl
    obtain rfl : m = 0 := by omega
    clear hnil
    go_enter Tryd.func34, Tryd.ntmps34
    go_wp2
    go_end0
    exact ⟨rfl, rfl⟩
  | some a =>
    clear hnil
    go_enter Tryd.func34, Tryd.ntmps34
    go_wp2
    go_end0
    exact ⟨rfl, rfl⟩
end Go.Proofs.YteipcbpkgpffjaaDoor
