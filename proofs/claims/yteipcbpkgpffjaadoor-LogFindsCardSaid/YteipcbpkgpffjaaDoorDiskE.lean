/-
  The disk of package disk: New, Append, Fuse. Conditions: those of each theorem ('DiskAt': the pointer leads to a disk that holds D).
-/
import Derived.Test.YteipcbpkgpffjaaDoorDiskD
import Derived.Test.YteipcbpkgpffjaaDoorSlices
namespace Go.Proofs.YteipcbpkgpffjaaDoor
open Go.RowKit
set_option maxRecDepth 100000

def DM.new (cap : Nat) : DM := { cap := cap, f := fun _ => { has := false, b := [], safe := 0 }, lit := false, fuse := 0, lost := false }
theorem DM.new_used (cap : Nat) : ∀ n, (DM.new cap).used n = 0 := by
  intro n
  induction n with
  | zero => rfl
  | succ n ih => simp only [DM.used, ih]; rfl

set_option maxHeartbeats 400000 in
theorem new_bad (c : Int) (w : World) (hc : c < 0 ∨ 1048576 < c) :
    Calls Tryd.prog 9 #[.int .i64 c] w fun e w' => e = .returned (.tuple #[.pointer none, .int .i64 1]) ∧ w = w' := by
  by_cases h0 : c < 0
  · clear hc
    go_enter Tryd.func9, Tryd.ntmps9
    go_wp2
    go_ret2
    exact ⟨rfl, rfl⟩
  · have h1 : 1048576 < c := hc.resolve_left h0
    clear hc
    go_enter Tryd.func9, Tryd.ntmps9
    go_wp2
    go_ret2
    exact ⟨rfl, rfl⟩

theorem eight {i : Nat} (hi : i < 8) : i = 0 ∨ i = 1 ∨ i = 2 ∨ i = 3 ∨ i = 4 ∨ i = 5 ∨ i = 6 ∨ i = 7 := by omega

set_option maxHeartbeats 400000 in
theorem new_in (c : Nat) (w : World) (hc : c ≤ 1048576) :
    Calls Tryd.prog 9 #[.int .i64 (c : Int)] w fun e w' => e = .returned (.tuple #[.pointer (some ⟨w.heap.size, 0, none⟩), .int .i64 0]) ∧
      (∃ V, DiskAt w' w.heap.size (fun k => k = w.heap.size) V (DM.new c)) ∧ Below w.heap.size w w' ∧ w'.heap.size = w.heap.size + 1 := by
  have h1 : ¬ (1048576 < (c : Int)) := by omega
  go_enter Tryd.func9, Tryd.ntmps9
  go_wp2
  go_ret2
  refine ⟨rfl, ⟨fun _ => .slice none 0 0, ?_⟩, (Below.refl _ _).alloc (Nat.le_refl _) _, by simp⟩
  refine ⟨⟨hc, by rw [DM.new_used]; exact Nat.zero_le _, fun i _ => Nat.le_refl _, fun i _ _ => ⟨rfl, rfl⟩, by simp [DM.new]⟩, rfl, ?_, ⟨_, heap_alloc_new w _, rfl⟩, ?_, ?_, ?_, ?_, ?_, ?_, ?_, ?_, ?_, ?_⟩
  · rintro k rfl; simp
  · simp [DM.new]
  · intro i hi; rcases eight hi with rfl | rfl | rfl | rfl | rfl | rfl | rfl | rfl <;> simp [DM.new]
  · intro i hi; rcases eight hi with rfl | rfl | rfl | rfl | rfl | rfl | rfl | rfl <;> simp
  · intro i hi; rcases eight hi with rfl | rfl | rfl | rfl | rfl | rfl | rfl | rfl <;> simp [DM.new]
  · simp [DM.new]
  · simp [DM.new]
  · simp [DM.new]
  · intro i hi; exact World.ownsRow_nil _ _ _ _
  · intro i hi g hg; cases hg
  · intro i j _ _ _ g hg; cases hg

def DM.append (D : DM) (A : Int) (ys : List UInt8) : Int × DM :=
  if rd D.lost [A] = 0 then
    (if D.cap < D.used 8 + ys.length then (5, D)
     else if D.spend.1 = 0 then (0, D.spend.2.set A.toNat { has := true, b := (D.f A.toNat).b ++ ys, safe := (D.f A.toNat).safe })
     else (6, D.spend.2.set A.toNat { has := true, b := (D.f A.toNat).b ++ ys.take (ys.length / 2), safe := (D.f A.toNat).safe }))
  else (rd D.lost [A], D)

theorem rd_zero {l : Bool} {A : Int} (h : rd l [A] = 0) : l = false ∧ ∃ i : Nat, A = i ∧ i < 8 := by
  unfold rd rdy at h
  split at h
  · cases h
  · rename_i hl
    split at h
    · rename_i hr
      obtain ⟨h0, h8⟩ : 0 ≤ A ∧ A < 8 := by simpa [inRange] using hr
      obtain ⟨i, rfl⟩ := Int.eq_ofNat_of_zero_le h0
      exact ⟨by simpa using hl, i, rfl, by omega⟩
    · cases h

theorem IsBytes.take {w : World} {a : Option Addr} {xs : List UInt8} (h : IsBytes w a xs) (n : Nat) : IsBytes w a (xs.take n) := by
  rcases h with rfl | ⟨b, off, rfl, hb, hc⟩
  · exact .inl (by simp)
  · refine .inr ⟨b, off, rfl, hb, fun i hi => ?_⟩
    rw [List.getElem_take]
    exact hc i (by simp at hi; omega)

/-- The two stores of an append: the file is there, and its slice is the one that append gave. -/
theorem DiskAt.appended {w w1 : World} {p : Nat} {S : Nat → Prop} {V : Nat → Value} {D : DM} (h : DiskAt w p S V D) {i : Nat} (hi : i < 8) {zs : List UInt8} {a' : Option Addr} {c' : Nat}
    (hr : w1.ownsRow 0 5 1 (.slice a' ((D.f i).b.length + zs.length) c') ((D.f i).b.length + zs.length) (((D.f i).b ++ zs).map bval))
    (hg : (w.setCell ⟨p, 1 + i * 3, none⟩ (.bool true)).grownBy w1 (V i).ownBlock) (hnew : ∀ g, (Value.slice a' ((D.f i).b.length + zs.length) c').ownBlock = some g → (V i).ownBlock = some g ∨ w.heap.size ≤ g)
    (hu : D.used 8 + zs.length ≤ D.cap) :
    ∃ V', DiskAt (w1.setCell ⟨p, 1 + i * 3 + 1, none⟩ (.slice a' ((D.f i).b.length + zs.length) c')) p (More S w w1) V' (D.set i { has := true, b := (D.f i).b ++ zs, safe := (D.f i).safe }) := by
  have hp := h.lt p h.own
  have hne : ∀ k, some k = (V i).ownBlock → k ≠ p := fun k hk => (h.mine i hi k hk.symm).2
  have hpk : some p ≠ (V i).ownBlock := fun e => hne p e rfl
  have hsz : w.heap.size ≤ w1.heap.size := by have := hg.size; rwa [setCell_size] at this
  have hblk := h.blk_set (1 + i * 3) (.bool true)
  rw [← hg.block p (by rw [setCell_size]; exact hp) hpk] at hblk
  have hcell : ∀ o, w1.cell? ⟨p, o, none⟩ = (w.setCell ⟨p, 1 + i * 3, none⟩ (.bool true)).cell? ⟨p, o, none⟩ := fun o =>
    World.cell?_of_block (a := ⟨p, o, none⟩) (hg.block p (by rw [setCell_size]; exact hp) hpk)
  have hu1 : Upd (fun k => k = p ∨ (V i).ownBlock = some k) w w1 :=
    ((upd_set (w := w) (p := p) (1 + i * 3) (.bool true)).mono (fun k _ hk => .inl hk)).grown hg (fun k hk => .inl (.inr hk))
  have hx1 : w1.cell? ⟨p, 1 + i * 3 + 1, none⟩ = some (V i) := by rw [hcell, cell_other (by omega)]; exact h.val i hi
  have h1 := h.put (w' := w1.setCell ⟨p, 1 + i * 3 + 1, none⟩ (.slice a' ((D.f i).b.length + zs.length) c')) hi { has := true, b := (D.f i).b ++ zs, safe := (D.f i).safe } (.slice a' ((D.f i).b.length + zs.length) c')
    (hu1.setCell (p := ⟨p, _, none⟩) (.inl (.inl rfl)) _)
    (by
      obtain ⟨cur, e1, e2⟩ := hblk
      exact ⟨_, setCell_heap_at e1, by simpa using e2⟩)
    (fun o ho => by rw [cell_other (by omega), hcell, cell_other (by omega)])
    (by rw [cell_other (by omega), hcell]; exact cell_same (h.has i hi))
    (cell_same hx1)
    (by rw [cell_other (by omega), hcell, cell_other (by omega)]; exact h.safe i hi)
    (by
      simp only [List.length_append]
      refine ownsRow_upd hr (upd_set _ _) ?_
      intro g hv hk
      rcases hnew g hv with hk' | hk'
      · exact hne g hk'.symm hk
      · omega)
    hnew
    (h.ok.set hi (by simp only [List.length_append]; have := h.ok.safe i hi; omega) (fun hf => by cases hf) (by simp only [List.length_append]; omega))
  have hS : More S w (w1.setCell ⟨p, 1 + i * 3 + 1, none⟩ (.slice a' ((D.f i).b.length + zs.length) c')) = More S w w1 := by
    funext k; simp only [More, setCell_size]
  rw [hS] at h1
  exact ⟨_, h1⟩


theorem DiskAt.grown_cell {w w1 : World} {p : Nat} {S : Nat → Prop} {V : Nat → Value} {D : DM} (h : DiskAt w p S V D) {i : Nat} (hi : i < 8) {a : Option Addr} {n c : Nat} (hv : V i = .slice a n c)
    (hg : (w.setCell ⟨p, 1 + i * 3, none⟩ (.bool true)).grownBy w1 (Value.slice a n c).ownBlock) :
    w1.cell? ⟨p, 1 + i * 3 + 1, none⟩ = some (.slice a n c) ∧ w1.frozen? ⟨p, 1 + i * 3 + 1, none⟩ = false ∧ w.heap.size ≤ w1.heap.size := by
  have hp := h.lt p h.own
  rw [← hv] at hg
  have hpk : some p ≠ (V i).ownBlock := fun e => (h.mine i hi p e.symm).2 rfl
  have hb := hg.block p (by rw [setCell_size]; exact hp) hpk
  refine ⟨?_, ?_, by have := hg.size; rwa [setCell_size] at this⟩
  · rw [World.cell?_of_block (a := ⟨p, 1 + i * 3 + 1, none⟩) hb, cell_other (by omega), ← hv]
    exact h.val i hi
  · rw [World.frozen?_of_block (a := ⟨p, 1 + i * 3 + 1, none⟩) hb]
    obtain ⟨cur, h1, _⟩ := h.blk_set (1 + i * 3) (.bool true)
    simp [World.frozen?, h1]
/-- The last part of Append: the file is there, and the bytes are behind its bytes. -/
theorem DM.used_congr {D E : DM} (h : D.f = E.f) : ∀ n, D.used n = E.used n := by
  intro n
  induction n with
  | zero => rfl
  | succ n ih => simp only [DM.used, ih, h]
theorem DM.spend_used (D : DM) (n : Nat) : D.spend.2.used n = D.used n := DM.used_congr D.spend_f.1 n

set_option maxHeartbeats 1600000 in
theorem append_in {w : World} {p : Nat} {S : Nat → Prop} {V : Nat → Value} {D : DM} (h : DiskAt w p S V D) (A : Int) (ad : Option Addr) (ys : List UInt8) (c : Nat) (hc : ys.length ≤ c) (hcm : c ≤ maxLen) (hy : IsBytes w ad ys) (hnc : ad = none → c = 0) (hys : ys ≠ [] → ∀ x, ad = some x → ¬ S x.block) :
    Calls Tryd.prog 20 #[.pointer (some ⟨p, 0, none⟩), .int .i64 A, .slice ad ys.length c] w (After w p S (D.append A ys)) := by
  have hp : p < w.heap.size := h.lt p h.own
  have h27 := h.c27
  have h27a : ∀ o, (w.alloc o).cell? ⟨p, 27, none⟩ = some (.bool D.lost) := fun o => by rw [World.cell?_alloc_past _ _ _ hp]; exact h27
  unfold maxLen at hcm
  by_cases hq : rd D.lost [A] = 0
  · obtain ⟨hl, i, rfl, hi⟩ := rd_zero hq
    have HQ := Lib.hid hq
    by_cases hroom : D.cap < D.used 8 + ys.length
    · have hgt : (D.cap : Int) - D.used 8 < ys.length := by omega
      have e1 : D.append i ys = (5, D) := by simp only [DM.append, hq, hroom, if_true]
      rw [e1]
      clear e1 hq hroom hl
      go_enter Tryd.func20, Tryd.ntmps20
      go_wp2_with fail
      refine (ready1 p _ D.lost i _ (h27a _) (by simp)).mono ?_
      rintro e w1 ⟨rfl, rfl⟩
      rw [HQ.out]
      have b1 : Below w.heap.size w (w.alloc (.cells #[.int .i64 (i : Int)] 3)) := (Below.refl _ _).alloc (Nat.le_refl _) _
      have h1 := h.below b1
      go_wp2_with fail
      refine (room_in h1).mono ?_
      rintro e w2 ⟨rfl, b2⟩
      go_wp2
      go_ret
      exact ⟨rfl, S, V, h1.below b2, (below_upd S b1).trans (below_upd S b2) (fun k _ x => x), fun k hk => .inl hk⟩
    · have hle : ¬ ((D.cap : Int) - D.used 8 < ys.length) := by omega
      have hfit : D.used 8 + ys.length ≤ D.cap := by omega
      have hcap := h.ok.cap
      have hlen := D.set_len i hi
      have hi8 : (i : Int) < 8 := by omega
      by_cases hs : D.spend.1 = 0
      · have e1 : D.append i ys = (0, D.spend.2.set i { has := true, b := (D.f i).b ++ ys, safe := (D.f i).safe }) := by
          simp only [DM.append, hq, hroom, hs, if_true, if_false, Int.toNat_natCast]
        rw [e1]
        have HS := Lib.hid hs
        clear e1 hq hroom hl hs
        go_enter Tryd.func20, Tryd.ntmps20
        go_wp2_with fail
        refine (ready1 p _ D.lost i _ (h27a _) (by simp)).mono ?_
        rintro e w1 ⟨rfl, rfl⟩
        rw [HQ.out]
        have b1 : Below w.heap.size w (w.alloc (.cells #[.int .i64 (i : Int)] 3)) := (Below.refl _ _).alloc (Nat.le_refl _) _
        have h1 := h.below b1
        go_wp2_with fail
        refine (room_in h1).mono ?_
        rintro e w2 ⟨rfl, b2⟩
        have h2 := h1.below b2
        go_wp2_with fail
        refine (spend_in h2).mono ?_
        rintro e w3 ⟨rfl, h3, u3⟩
        rw [HS.out]
        have ub : Upd S w w3 := ((below_upd S b1).trans (below_upd S b2) (fun k _ x => x)).trans u3 (fun k _ hk => by rw [hk]; exact h.own)
        have hy3 : IsBytes w3 ad ys := hy.upd ub hys
        have hp3 := h3.lt p h3.own
        have f0 := h3.frozen (1 + i * 3)
        have f1 := h3.frozen (1 + i * 3 + 1)
        have x0 := h3.has i hi
        obtain ⟨a, cc, hv, hc1, hc2, hc3⟩ := h3.slice' i hi
        have x1 := h3.val i hi
        have hr := h3.row i hi
        rw [hv] at x1 hr
        rw [D.spend_f.1] at x0 x1 hr hc1 hc3 hv
        have hown : (w3.setCell ⟨p, 1 + i * 3, none⟩ (.bool true)).ownsRow 0 5 1 (.slice a (D.f i).b.length cc) (D.f i).b.length ((D.f i).b.map bval) :=
          ownsRow_upd hr (upd_set _ _) (fun g hg => (h3.mine i hi g (by rw [hv]; exact hg)).2)
        have hyw : IsBytes (w3.setCell ⟨p, 1 + i * 3, none⟩ (.bool true)) ad ys := hy3.upd (upd_set _ _) (fun h0 x hx e => hys h0 x hx (by rw [e]; exact h.own))
        have hnb : (D.f i).b.length + ys.length ≤ 140737488355328 := by omega
        have hz : 0 ≤ (w3.setCell ⟨p, 1 + i * 3, none⟩ (.bool true)).heap.size := Nat.zero_le _
        clear hc3
        go_wp2_with (at_builtin; refine wpList_append_bytes rfl _ _ 22 rfl 0 5 Tryd.underlying22 u8_info (.slice a (D.f i).b.length cc) (D.f i).b.length (D.f i).b rfl hown ad ys ys.length rfl c rfl hyw hnc hnb hz ?_; intro a' c' w4 hr4 hg4 hn4; obtain ⟨x4, f4, s4⟩ := h3.grown_cell hi hv hg4)
        go_ret
        rw [← hv] at hg4 hn4
        have hS := h3.appended (w1 := w4) hi (zs := ys) (a' := a') (c' := c') (by rw [D.spend_f.1]; exact hr4) hg4 (by rw [D.spend_f.1]; intro g hg; rcases hn4 g hg with x | x; exact .inl x; right; rw [x, setCell_size]; exact Nat.le_refl _) (by
          have : D.spend.2.used 8 = D.used 8 := D.spend_used 8
          rw [this, D.spend_f.2]; exact hfit)
        obtain ⟨V', hD⟩ := hS
        rw [D.spend_f.1] at hD
        refine ⟨rfl, _, V', hD, ?_, fun k hk => ?_⟩
        · refine Upd.setCell ?_ (p := ⟨p, _, none⟩) (.inl h.own) _
          refine Upd.grown (ub.setCell (p := ⟨p, _, none⟩) (.inl h.own) _) hg4 (fun k hk => .inl (h3.mine i hi k hk).1)
        · rcases hk with hk | ⟨hk1, hk2⟩
          · exact .inl hk
          · exact .inr ⟨Nat.le_trans ub.size hk1, by rw [setCell_size]; exact hk2⟩
      · have hs6 : D.spend.1 = 6 := (D.spend_or).resolve_left hs
        have e1 : D.append i ys = (6, D.spend.2.set i { has := true, b := (D.f i).b ++ ys.take (ys.length / 2), safe := (D.f i).safe }) := by
          simp only [DM.append, hq, hroom, hs, if_true, if_false, Int.toNat_natCast]
        rw [e1]
        have HS := Lib.hid hs6
        clear e1 hq hroom hl hs hs6
        go_enter Tryd.func20, Tryd.ntmps20
        go_wp2_with fail
        refine (ready1 p _ D.lost i _ (h27a _) (by simp)).mono ?_
        rintro e w1 ⟨rfl, rfl⟩
        rw [HQ.out]
        have b1 : Below w.heap.size w (w.alloc (.cells #[.int .i64 (i : Int)] 3)) := (Below.refl _ _).alloc (Nat.le_refl _) _
        have h1 := h.below b1
        go_wp2_with fail
        refine (room_in h1).mono ?_
        rintro e w2 ⟨rfl, b2⟩
        have h2 := h1.below b2
        go_wp2_with fail
        refine (spend_in h2).mono ?_
        rintro e w3 ⟨rfl, h3, u3⟩
        rw [HS.out]
        have ub : Upd S w w3 := ((below_upd S b1).trans (below_upd S b2) (fun k _ x => x)).trans u3 (fun k _ hk => by rw [hk]; exact h.own)
        have hy3 : IsBytes w3 ad (ys.take (ys.length / 2)) := (hy.upd ub hys).take _
        have hp3 := h3.lt p h3.own
        have f0 := h3.frozen (1 + i * 3)
        have f1 := h3.frozen (1 + i * 3 + 1)
        have x0 := h3.has i hi
        obtain ⟨a, cc, hv, hc1, hc2, hc3⟩ := h3.slice' i hi
        have x1 := h3.val i hi
        have hr := h3.row i hi
        rw [hv] at x1 hr
        rw [D.spend_f.1] at x0 x1 hr hc1 hc3 hv
        have hown : (w3.setCell ⟨p, 1 + i * 3, none⟩ (.bool true)).ownsRow 0 5 1 (.slice a (D.f i).b.length cc) (D.f i).b.length ((D.f i).b.map bval) :=
          ownsRow_upd hr (upd_set _ _) (fun g hg => (h3.mine i hi g (by rw [hv]; exact hg)).2)
        have hyw : IsBytes (w3.setCell ⟨p, 1 + i * 3, none⟩ (.bool true)) ad (ys.take (ys.length / 2)) := hy3.upd (upd_set _ _) (fun h0 x hx e => hys (fun e0 => h0 (by rw [e0]; rfl)) x hx (by rw [e]; exact h.own))
        have hz : 0 ≤ (w3.setCell ⟨p, 1 + i * 3, none⟩ (.bool true)).heap.size := Nat.zero_le _
        clear hc3 hy3
        have hlz : (ys.take (ys.length / 2)).length = ys.length / 2 := by simp; omega
        have HLZ := Lib.hid hlz
        clear hlz
        have hnb : (D.f i).b.length + ys.length / 2 ≤ 140737488355328 := by omega
        cases ad with
        | none =>
          obtain rfl := hnc rfl
          obtain rfl : ys = [] := List.length_eq_zero_iff.1 (by omega)
          clear hyw hnb HLZ
          have hyw : IsBytes (w3.setCell ⟨p, 1 + i * 3, none⟩ (.bool true)) none [] := .inl rfl
          have hnb : (D.f i).b.length + 0 ≤ 140737488355328 := by omega
          go_wp2_with (at_builtin; refine wpList_append_bytes rfl _ _ 22 rfl 0 5 Tryd.underlying22 u8_info (.slice a (D.f i).b.length cc) (D.f i).b.length (D.f i).b rfl hown none [] 0 rfl 0 rfl hyw (fun _ => rfl) hnb hz ?_; intro a' c' w4 hr4 hg4 hn4; obtain ⟨x4, f4, s4⟩ := h3.grown_cell hi hv hg4)
          go_ret
          rw [← hv] at hg4 hn4
          have hS := h3.appended (w1 := w4) hi (zs := []) (a' := a') (c' := c') (by rw [D.spend_f.1]; exact hr4) hg4 (by rw [D.spend_f.1]; intro g hg; rcases hn4 g hg with x | x; exact .inl x; right; rw [x, setCell_size]; exact Nat.le_refl _) (by
            have : D.spend.2.used 8 = D.used 8 := D.spend_used 8
            rw [this, D.spend_f.2]; simp; omega)
          obtain ⟨V', hD⟩ := hS
          rw [D.spend_f.1] at hD
          refine ⟨rfl, _, V', by simpa using hD, ?_, fun k hk => ?_⟩
          · refine Upd.setCell ?_ (p := ⟨p, _, none⟩) (.inl h.own) _
            refine Upd.grown (ub.setCell (p := ⟨p, _, none⟩) (.inl h.own) _) hg4 (fun k hk => .inl (h3.mine i hi k hk).1)
          · rcases hk with hk | ⟨hk1, hk2⟩
            · exact .inl hk
            · exact .inr ⟨Nat.le_trans ub.size hk1, by rw [setCell_size]; exact hk2⟩
        | some ad =>
          clear hnc
          have hnc : some ad = none → c = 0 := fun x => by cases x
          go_wp2_with (at_builtin; refine wpList_append_bytes rfl _ _ 22 rfl 0 5 Tryd.underlying22 u8_info (.slice a (D.f i).b.length cc) (D.f i).b.length (D.f i).b rfl hown (some ad) (ys.take (ys.length / 2)) (ys.length / 2) HLZ.out c rfl hyw hnc hnb hz ?_; intro a' c' w4 hr4 hg4 hn4; obtain ⟨x4, f4, s4⟩ := h3.grown_cell hi hv hg4)
          go_ret
          have hlz := HLZ.out
          rw [← hv] at hg4 hn4
          have hS := h3.appended (w1 := w4) hi (zs := ys.take (ys.length / 2)) (a' := a') (c' := c') (by rw [D.spend_f.1]; rw [hlz]; exact hr4) hg4 (by rw [D.spend_f.1]; intro g hg; rcases hn4 g (by rw [hlz] at hg; exact hg) with x | x; exact .inl x; right; rw [x, setCell_size]; exact Nat.le_refl _) (by
            have : D.spend.2.used 8 = D.used 8 := D.spend_used 8
            rw [this, D.spend_f.2]; simp; omega)
          obtain ⟨V', hD⟩ := hS
          rw [D.spend_f.1] at hD
          refine ⟨rfl, _, V', by rw [hlz] at hD; exact hD, ?_, fun k hk => ?_⟩
          · refine Upd.setCell ?_ (p := ⟨p, _, none⟩) (.inl h.own) _
            refine Upd.grown (ub.setCell (p := ⟨p, _, none⟩) (.inl h.own) _) hg4 (fun k hk => .inl (h3.mine i hi k hk).1)
          · rcases hk with hk | ⟨hk1, hk2⟩
            · exact .inl hk
            · exact .inr ⟨Nat.le_trans ub.size hk1, by rw [setCell_size]; exact hk2⟩
  · have hb : (rd D.lost [A] != 0) = true := by simpa using hq
    have e1 : D.append A ys = (rd D.lost [A], D) := by simp only [DM.append, hq, if_false]
    rw [e1]
    clear e1 hq
    go_enter Tryd.func20, Tryd.ntmps20
    go_wp2_with (go_at_call 33; refine (ready1 p _ D.lost A _ (h27a _) (by simp)).mono ?_; rintro e w1 ⟨rfl, rfl⟩)
    go_ret
    have b1 : Below w.heap.size w (w.alloc (.cells #[.int .i64 A] 3)) := (Below.refl _ _).alloc (Nat.le_refl _) _
    exact ⟨rfl, S, V, h.below b1, below_upd S b1, fun k hk => .inl hk⟩
end Go.Proofs.YteipcbpkgpffjaaDoor
