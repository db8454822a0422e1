/-
  The disk of package disk: Fuse, Read (and bytes.Clone), Restart. Conditions: those of each theorem ('DiskAt': the pointer leads to a disk that holds D).
-/
import Derived.Test.YteipcbpkgpffjaaDoorDiskE
namespace Go.Proofs.YteipcbpkgpffjaaDoor
open Go.RowKit
set_option maxRecDepth 100000

theorem DiskAt.bytes {w : World} {p : Nat} {S : Nat → Prop} {V : Nat → Value} {D : DM} (h : DiskAt w p S V D) (i : Nat) (hi : i < 8) :
    ∃ a c, V i = .slice a (D.f i).b.length c ∧ IsBytes w a (D.f i).b ∧ (D.f i).b.length ≤ c ∧ c ≤ maxLen ∧ (a = none → c = 0) := by
  obtain ⟨a, c, hv⟩ := h.slice i hi
  have hr := h.row i hi
  rw [hv] at hr
  obtain ⟨h1, _, h2, h3, h4⟩ := bytes_of_row hr
  exact ⟨a, c, hv, h1, h2, h3, h4⟩

set_option maxHeartbeats 800000 in
theorem read_in {w : World} {p : Nat} {S : Nat → Prop} {V : Nat → Value} {D : DM} (h : DiskAt w p S V D) (A : Int) :
    Calls Tryd.prog 54 #[.pointer (some ⟨p, 0, none⟩), .int .i64 A] w fun e w' =>
      (∃ a n c ys, e = .returned (.tuple #[.slice a n c, .int .i64 (D.prs A)]) ∧ ys.length = n ∧ IsBytes w' a ys ∧ n ≤ c ∧ c ≤ maxLen ∧ (a = none → c = 0) ∧ (D.prs A = 0 → ys = (D.f A.toNat).b)) ∧ Below w.heap.size w w' := by
  have HP := Lib.hid (present_in h A)
  by_cases hq : D.prs A = 0
  · obtain ⟨i, rfl, hi, hhas, hl⟩ := DM.prs_zero hq
    have HQ := Lib.hid hq
    have hi8 : (i : Int) < 8 := by omega
    clear hq hhas hl
    go_enter Tryd.func54, Tryd.ntmps54
    go_wp2_with fail
    refine HP.out.mono ?_
    rintro e w1 ⟨rfl, b1⟩
    rw [HQ.out]
    have h1 := h.below b1
    obtain ⟨a, c, hv, hb, hc1, hc2, hnc⟩ := h1.bytes i hi
    have x1 := h1.val i hi
    rw [hv] at x1
    have hlen : (D.f i).b.length ≤ 140737488355328 := by have := D.set_len i hi; have := h.ok.used; have := h.ok.cap; omega
    clear hv
    go_wp2_with fail
    refine (clone_bytes a (D.f i).b _ c w1 rfl hb hnc hlen).mono ?_
    rintro e w2 ⟨⟨a', c', rfl, hr⟩, b2⟩
    go_wp2
    go_ret2
    obtain ⟨g1, g2, g3, g4, g5⟩ := bytes_of_row hr
    exact ⟨⟨a', _, c', (D.f i).b, by rw [HQ.out]; rfl, rfl, g1, g3, g4, g5, fun _ => rfl⟩, b1.trans (b2.mono b1.size)⟩
  · have hb : (D.prs A != 0) = true := by simpa using hq
    have HQ := Lib.hid hq
    clear hq
    go_enter Tryd.func54, Tryd.ntmps54
    go_wp2_with (go_at_call 50; refine HP.out.mono ?_; rintro e w1 ⟨rfl, b1⟩)
    go_ret2
    exact ⟨⟨none, 0, 0, [], rfl, rfl, .inl rfl, Nat.le_refl _, Nat.zero_le _, fun _ => rfl, fun x => (HQ.out x).elim⟩, b1⟩

def DM.lightUp (D : DM) (n : Int) : Int × DM := if D.lost then (6, D) else if n < 0 then (1, D) else (0, { D with lit := true, fuse := n.toNat })

set_option maxHeartbeats 800000 in
theorem fuse_in {w : World} {p : Nat} {S : Nat → Prop} {V : Nat → Value} {D : DM} (h : DiskAt w p S V D) (n : Int) (hn : n ≤ 9223372036854775807) :
    Calls Tryd.prog 11 #[.pointer (some ⟨p, 0, none⟩), .int .i64 n] w (After w p S (D.lightUp n)) := by
  have h27 := h.c27
  have h25 := h.c25
  have h26 := h.c26
  have f25 := h.frozen 25
  have f26 := h.frozen 26
  by_cases hl : D.lost = true
  · have e1 : D.lightUp n = (6, D) := by simp [DM.lightUp, hl]
    have e2 : rd D.lost [] = 6 := by rw [hl]; rfl
    rw [e1]
    have E2 := Lib.hid e2
    clear e1 e2 hl
    go_enter Tryd.func11, Tryd.ntmps11
    go_wp2_with fail
    refine (ready0 p _ w h27).mono ?_
    rintro e w1 ⟨rfl, rfl⟩
    rw [E2.out]
    go_wp2
    go_ret
    exact ⟨rfl, S, V, h, Upd.refl _ _, fun k hk => .inl hk⟩
  · have hl' : D.lost = false := by simpa using hl
    have e2 : rd D.lost [] = 0 := by rw [hl']; rfl
    have E2 := Lib.hid e2
    by_cases hz : n < 0
    · have e1 : D.lightUp n = (1, D) := by simp [DM.lightUp, hl', hz]
      rw [e1]
      clear e1 e2 hl hl'
      go_enter Tryd.func11, Tryd.ntmps11
      go_wp2_with fail
      refine (ready0 p _ w h27).mono ?_
      rintro e w1 ⟨rfl, rfl⟩
      rw [E2.out]
      go_wp2
      go_ret
      exact ⟨rfl, S, V, h, Upd.refl _ _, fun k hk => .inl hk⟩
    · obtain ⟨m, rfl⟩ := Int.eq_ofNat_of_zero_le (show 0 ≤ n by omega)
      have e1 : D.lightUp m = (0, { D with lit := true, fuse := m }) := by simp [DM.lightUp, hl']
      rw [e1]
      clear e1 e2 hl hl'
      go_enter Tryd.func11, Tryd.ntmps11
      go_wp2_with fail
      refine (ready0 p _ w h27).mono ?_
      rintro e w1 ⟨rfl, rfl⟩
      rw [E2.out]
      go_wp2
      go_ret
      exact ⟨rfl, S, V, (h.light true).burn m (by omega), ((Upd.refl S w).setCell (p := ⟨p, 25, none⟩) (.inl h.own) _).setCell (p := ⟨p, 26, none⟩) (.inl h.own) _, fun k hk => .inl hk⟩

/-- How many bytes a restart leaves of a file. -/
def FM.left (x : FM) (keep : Int) : Nat := x.safe + (min (max keep 0) ((x.b.length : Int) - x.safe)).toNat
def FM.restart (x : FM) (keep : Int) : FM := { has := x.has, b := x.b.take (x.left keep), safe := x.left keep }
theorem FM.left_le (x : FM) (h : x.safe ≤ x.b.length) (keep : Int) : x.left keep ≤ x.b.length := by unfold FM.left; omega
/-- The first k files restarted. -/
def DM.upto (D : DM) (keep : Nat → Int) (k : Nat) : DM := { D with f := fun i => if i < k then (D.f i).restart (keep i) else D.f i }
def DM.restart (D : DM) (keep : Nat → Int) : DM := { D with f := fun i => if i < 8 then (D.f i).restart (keep i) else D.f i, lit := false, fuse := 0, lost := false }
theorem DM.upto_zero (D : DM) (keep : Nat → Int) : D.upto keep 0 = D := by
  unfold DM.upto; simp
theorem DM.upto_succ (D : DM) (keep : Nat → Int) (k : Nat) : (D.upto keep k).set k ((D.f k).restart (keep k)) = D.upto keep (k + 1) := by
  unfold DM.upto DM.set
  simp only [DM.mk.injEq, true_and, and_true]
  funext i
  by_cases h1 : i = k
  · subst h1; simp
  · by_cases h2 : i < k
    · have h3 : i < k + 1 := by omega
      simp [h1, h2, h3]
    · have h3 : ¬ i < k + 1 := by omega
      simp [h1, h2, h3]
theorem DM.upto_at (D : DM) (keep : Nat → Int) (k : Nat) : (D.upto keep k).f k = D.f k := by simp [DM.upto]
theorem DM.upto_end (D : DM) (keep : Nat → Int) : { D.upto keep 8 with lit := false, fuse := 0, lost := false } = D.restart keep := rfl

def kp (k0 k1 k2 k3 k4 k5 k6 k7 : Int) : Nat → Int
  | 0 => k0 | 1 => k1 | 2 => k2 | 3 => k3 | 4 => k4 | 5 => k5 | 6 => k6 | _ => k7

theorem DiskAt.dark {w : World} {p : Nat} {S : Nat → Prop} {V : Nat → Value} {D : DM} (h : DiskAt w p S V D) :
    DiskAt (((w.setCell ⟨p, 25, none⟩ (.bool false)).setCell ⟨p, 26, none⟩ (.int .i64 0)).setCell ⟨p, 27, none⟩ (.bool false)) p S V { D with lit := false, fuse := 0, lost := false } := by
  have h2 := (h.light false).burn 0 (by decide)
  refine ⟨⟨h2.ok.cap, h2.ok.used, h2.ok.safe, h2.ok.none, h2.ok.fuse⟩, h2.own, fun k hk => by rw [setCell_size]; exact h2.lt k hk, h2.blk_set 27 _, ?_, ?_, ?_, ?_, ?_, ?_, ?_, ?_, h2.mine, h2.apart⟩
  · rw [cell_other (by omega)]; exact h2.c0
  · intro i hi; rw [cell_other (by omega)]; exact h2.has i hi
  · intro i hi; rw [cell_other (by omega)]; exact h2.val i hi
  · intro i hi; rw [cell_other (by omega)]; exact h2.safe i hi
  · rw [cell_other (by omega)]; exact h2.c25
  · rw [cell_other (by omega)]; exact h2.c26
  · exact cell_same h2.c27
  · intro i hi; exact ownsRow_upd (h2.row i hi) (upd_set 27 _) (fun g hg => (h2.mine i hi g hg).2)

theorem hold_any (p o : Nat) (a : Option Addr) (n m c : Nat) (mi : Int) (v2 : Value) (w : World) (hmi : mi = (m : Int)) (hm : m ≤ n) (hn : n ≤ c) (hc : c ≤ maxLen) (hnil : a = none → n = 0 ∧ c = 0) (h1 : w.cell? ⟨p, o + 1, none⟩ = some (.slice a n c)) (h2 : w.cell? ⟨p, o + 2, none⟩ = some v2)
    (f1 : w.frozen? ⟨p, o + 1, none⟩ = false) (f2 : w.frozen? ⟨p, o + 2, none⟩ = false) :
    Calls Tryd.prog 34 #[.pointer (some ⟨p, o, none⟩), .int .i64 mi] w fun e w' => e = .returned (.tuple #[]) ∧
      (w.setCell ⟨p, o + 1, none⟩ (.slice a m c)).setCell ⟨p, o + 2, none⟩ (.int .i64 (m : Int)) = w' := by
  subst hmi
  exact hold_in p o a n m c v2 w hm hn hc hnil h1 h2 f1 f2

set_option maxHeartbeats 1600000 in
theorem restart_in {w : World} {p : Nat} {S : Nat → Prop} {V : Nat → Value} {D : DM} (h : DiskAt w p S V D) (k0 k1 k2 k3 k4 k5 k6 k7 : Int) :
    Calls Tryd.prog 12 #[.pointer (some ⟨p, 0, none⟩), .agg #[.int .i64 k0, .int .i64 k1, .int .i64 k2, .int .i64 k3, .int .i64 k4, .int .i64 k5, .int .i64 k6, .int .i64 k7]] w
      fun e w' => e = .returned (.tuple #[]) ∧ (∃ V', DiskAt w' p S V' (D.restart (kp k0 k1 k2 k3 k4 k5 k6 k7))) ∧ Upd S w w' := by
  have hp := h.lt p h.own
  generalize hkp : kp k0 k1 k2 k3 k4 k5 k6 k7 = keep
  have HK := Lib.hid hkp
  clear hkp
  go_enter Tryd.func12, Tryd.ntmps12
  go_wp2
  have hks : ∀ i, i < 8 → (w.alloc (.cells #[.int .i64 k0, .int .i64 k1, .int .i64 k2, .int .i64 k3, .int .i64 k4, .int .i64 k5, .int .i64 k6, .int .i64 k7] 34)).cell? ⟨w.heap.size, i, none⟩ = some (.int .i64 (keep i)) := by
    intro i hi
    rw [← HK.out]
    rcases eight hi with rfl | rfl | rfl | rfl | rfl | rfl | rfl | rfl <;> simp [kp]
  have h1 := h.below ((Below.refl _ w).alloc (Nat.le_refl _) (.cells #[.int .i64 k0, .int .i64 k1, .int .i64 k2, .int .i64 k3, .int .i64 k4, .int .i64 k5, .int .i64 k6, .int .i64 k7] 34))
  have u1 : Upd S w (w.alloc (.cells #[.int .i64 k0, .int .i64 k1, .int .i64 k2, .int .i64 k3, .int .i64 k4, .int .i64 k5, .int .i64 k6, .int .i64 k7] 34)) := (Upd.refl _ _).alloc _
  have hsz : w.heap.size < (w.alloc (.cells #[.int .i64 k0, .int .i64 k1, .int .i64 k2, .int .i64 k3, .int .i64 k4, .int .i64 k5, .int .i64 k6, .int .i64 k7] 34)).heap.size := by simp
  have hS : ∀ k, S k → k < w.heap.size := h.lt
  generalize w.alloc (.cells #[.int .i64 k0, .int .i64 k1, .int .i64 k2, .int .i64 k3, .int .i64 k4, .int .i64 k5, .int .i64 k6, .int .i64 k7] 34) = wa at *
  go_loopw [4, 5, 6, 9] (fun _ _ _ i wr => ∃ k : Nat, k ≤ 8 ∧ i = .int .i64 k ∧ (∃ V', DiskAt wr p S V' (D.upto keep k)) ∧ Upd S wa wr) (fun _ _ _ i _ => 8 - (intOf i).toNat)
  case atStart => exact ⟨0, by omega, rfl, ⟨V, by rw [DM.upto_zero]; exact h1⟩, Upd.refl _ _⟩
  case round =>
    obtain ⟨k, hk, rfl, ⟨V', hd⟩, hu⟩ := hrel
    by_cases hlt : k < 8
    · have xk : wr.cell? ⟨w.heap.size, k, none⟩ = some (.int .i64 (keep k)) := (hu.cell (p := ⟨w.heap.size, k, none⟩) hsz (fun x => absurd (hS _ x) (Nat.lt_irrefl _))).trans (hks k hlt)
      clear hks
      obtain ⟨a, c, hv, hc1, hc2, hc3⟩ := hd.slice' k hlt
      have x1 := hd.val k hlt
      have x2 := hd.safe k hlt
      have hsf := hd.ok.safe k hlt
      rw [hv] at x1
      rw [DM.upto_at] at x1 x2 hc1 hc3 hsf
      have hlt8 : (k : Int) < 8 := by omega
      have hn63 : (D.f k).b.length ≤ 1048576 := by have := D.set_len k hlt; have := h.ok.used; have := h.ok.cap; omega
      have hleft : (D.f k).left (keep k) ≤ (D.f k).b.length := FM.left_le _ hsf _
      have hdef : ((D.f k).left (keep k) : Int) = (D.f k).safe + (min (max (keep k) 0) (((D.f k).b.length : Int) - (D.f k).safe)) := by unfold FM.left; omega
      have HDEF := Lib.hid hdef
      have f1 := hd.frozen (1 + k * 3 + 1)
      have f2 := hd.frozen (1 + k * 3 + 2)
      clear hdef
      go_wp2_with fail
      go_quiet (fail)
      go_wp2_with fail
      all_goals
        refine (hold_any p (1 + k * 3) a (D.f k).b.length ((D.f k).left (keep k)) c _ _ (wr.drewN nq) (by have := HDEF.out; omega) hleft hc1 hc2 hc3 x1 x2 f1 f2).mono ?_
        rintro e w3 ⟨rfl, rfl⟩
        go_wp2
        go_roundw
        case rel =>
          obtain ⟨V3, hd3⟩ := (hd.upd (T := fun _ => False) ((Upd.refl _ wr).drewN nq) (fun _ _ x => x)).held hlt (m := (D.f k).left (keep k)) (by rw [DM.upto_at]; exact hleft) hv
          refine ⟨k + 1, by omega, by go_num, ⟨V3, ?_⟩, ?_⟩
          · rw [DM.upto_at] at hd3
            rw [← DM.upto_succ]
            exact hd3
          · exact ((hu.drewN nq).setCell (p := ⟨p, _, none⟩) (.inl hd.own) _).setCell (p := ⟨p, _, none⟩) (.inl hd.own) _
        case measure => simp [intOf]; omega
    · obtain rfl : k = 8 := by omega
      have x25 := hd.c25
      have x26 := hd.c26
      have x27 := hd.c27
      have f25 := hd.frozen 25
      have f26 := hd.frozen 26
      have f27 := hd.frozen 27
      clear hks
      go_wp2
      go_end0
      refine ⟨rfl, ⟨V', ?_⟩, ?_⟩
      · rw [← DM.upto_end]
        exact hd.dark
      · exact (((u1.trans hu (fun _ _ x => x)).setCell (p := ⟨p, 25, none⟩) (.inl hd.own) _).setCell (p := ⟨p, 26, none⟩) (.inl hd.own) _).setCell (p := ⟨p, 27, none⟩) (.inl hd.own) _
end Go.Proofs.YteipcbpkgpffjaaDoor
