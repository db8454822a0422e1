/-
  The statements' comparison of two lists of lists of bytes: recouplaw03.Lists. Conditions: those of each theorem.
-/
import Derived.Test.YteipcbpkgpffjaaDoorFramesRef
import Derived.Deep.RegionHeld3
namespace Go.Proofs.YteipcbpkgpffjaaDoor
open Go.RowKit
set_option maxRecDepth 100000

/-- What memory holds of a list of lists of bytes. -/
def ListsAt (w : World) (a : Option Addr) (L : List (List UInt8)) : Prop :=
  L = [] ∨ ∃ b off, a = some ⟨b, off, none⟩ ∧ b < w.heap.size ∧ ∀ i (h : i < L.length), ∃ ad c, w.cell? ⟨b, off + i, none⟩ = some (.slice ad L[i].length c) ∧ IsBytes w ad L[i] ∧ L[i].length ≤ c ∧ c ≤ maxLen ∧ (ad = none → c = 0)
theorem ListsAt.below {w w' : World} {a : Option Addr} {L : List (List UInt8)} (h : ListsAt w a L) (hb : Below w.heap.size w w') : ListsAt w' a L := by
  rcases h with h | ⟨b, off, rfl, hlt, hi⟩
  · exact .inl h
  · refine .inr ⟨b, off, rfl, Nat.lt_of_lt_of_le hlt hb.size, fun i h => ?_⟩
    obtain ⟨ad, c, h1, h2, h3⟩ := hi i h
    exact ⟨ad, c, (hb.cell (p := ⟨b, off + i, none⟩) hlt).trans h1, h2.below hb, h3⟩
theorem ListsAt.take {w : World} {a : Option Addr} {L : List (List UInt8)} (h : ListsAt w a L) (m : Nat) : ListsAt w a (L.take m) := by
  rcases h with rfl | ⟨b, off, rfl, hlt, hi⟩
  · exact .inl (by simp)
  · refine .inr ⟨b, off, rfl, hlt, fun i h => ?_⟩
    rw [List.getElem_take]
    exact hi i (by simp at h; omega)
theorem RowsOf.lists {w : World} {base n c : Nat} {a : Option Addr} {E : Nat → Prop} {L : List (List UInt8)} (h : RowsOf w base (.slice a n c) E L) : ListsAt w a L := by
  obtain ⟨vals, hr, hi⟩ := h
  rcases hr.2 with ⟨_, h2⟩ | ⟨g, cap, cur, hv, _, hg, _, _, _, ht⟩
  · exact .inl (List.length_eq_zero_iff.1 h2)
  · injection hv with h1 _ _
    subst h1
    refine .inr ⟨g, 0, rfl, (Array.getElem?_eq_some_iff.1 hg).1, fun i h => ?_⟩
    obtain ⟨ad, c', p1, p2, p3, p4, p5, _⟩ := hi i h
    refine ⟨ad, c', ?_, p2, p3, p4, p5⟩
    rw [Nat.zero_add, cell_of_row w g i cur _ (0, 0) hg]
    rw [← ht, List.getElem?_take] at p1
    split at p1
    · simpa using p1
    · cases p1

set_option maxHeartbeats 1600000 in
theorem lists_any (a b : Option Addr) (n m ca cb : Nat) (L M : List (List UInt8)) (w : World) (hn : L.length = n) (hm : M.length = m) (ha : ListsAt w a L) (hb : ListsAt w b M) (hx : n ≤ maxLen) (hy : m ≤ maxLen) :
    Calls Tryd.prog 38 #[.slice a n ca, .slice b m cb] w fun e w' => e = .returned (.bool (decide (L = M))) ∧ Below w.heap.size w w' := by
  unfold maxLen at hx hy
  have HN := Lib.hid hn
  have HM := Lib.hid hm
  clear hn hm
  by_cases hl : n = m
  · subst hl
    go_enter Tryd.func38, Tryd.ntmps38
    go_wp2
    go_loopw [5, 13] (fun _ i wr => ∃ k : Nat, k ≤ n ∧ i = .int .i64 k ∧ Below w.heap.size w wr ∧ L.take k = M.take k) (fun _ i _ => n - (intOf i).toNat)
    case atStart => exact ⟨0, Nat.zero_le _, rfl, Below.refl _ _, rfl⟩
    case round =>
      obtain ⟨k, hk, rfl, hB, hpre⟩ := hrel
      have HP := Lib.hid hpre
      clear hpre
      by_cases hlt : k < n
      · rcases ha.below hB with h0 | ⟨b1, o1, rfl, hb1, hi1⟩
        · have := HN.out; rw [h0] at this; simp at this; omega
        rcases hb.below hB with h0 | ⟨b2, o2, rfl, hb2, hi2⟩
        · have := HM.out; rw [h0] at this; simp at this; omega
        have hk1 : k < L.length := by rw [HN.out]; exact hlt
        have hk2 : k < M.length := by rw [HM.out]; exact hlt
        obtain ⟨a1, c1, x1, y1, z1, z2, _⟩ := hi1 k hk1
        obtain ⟨a2, c2, x2, y2, z3, z4, _⟩ := hi2 k hk2
        have hk0 : (0 : Int) ≤ (k : Int) := by omega
        have hkn : (k : Int) < (n : Int) := by omega
        have b0 := Below.refl wr.heap.size wr
        clear hi1 hi2
        have HTL := Lib.hid (List.take_succ_eq_append_getElem hk1)
        have HTM := Lib.hid (List.take_succ_eq_append_getElem hk2)
        have hne : Hid (L[k] ≠ M[k] → L ≠ M) := fun h e => h (by subst e; rfl)
        have hll : L[k].length ≤ maxLen := Nat.le_trans z1 z2
        have hlm : M[k].length ≤ maxLen := Nat.le_trans z3 z4
        generalize L[k] = p at *
        generalize M[k] = q at *
        go_wp2_with fail
        go_region_held3 (fun w' => Below wr.heap.size wr w' ∧ w'.cell? ⟨b1, o1 + k, none⟩ = some (.slice a1 p.length c1) ∧ w'.cell? ⟨b2, o2 + k, none⟩ = some (.slice a2 q.length c2))
          (refine ⟨?_, (Below.cell (p := ⟨b1, o1 + k, none⟩) (B := wr.heap.size) ?_ hb1).trans x1, (Below.cell (p := ⟨b2, o2 + k, none⟩) (B := wr.heap.size) ?_ hb2).trans x2⟩ <;> (first | assumption | exact Below.drew (by assumption)))
          ((go_at_call 36; refine Calls.mono (bytes_any a1 a2 p.length q.length c1 c2 p q _ rfl rfl (y1.below ?_) (y2.below ?_) hll hlm) ?_; (first | exact (Below.refl _ _).drew | exact Below.refl _ _); (first | exact (Below.refl _ _).drew | exact Below.refl _ _); rintro e w3 ⟨rfl, b3⟩; have b3 := b0.drew.trans b3))
        all_goals
          by_cases he : p = q
          · have hd : decide (p = q) = true := by simpa using he
            rw [hd]
            have HE := Lib.hid he
            clear he hd
            go_wp2
            go_roundw
            case rel => exact ⟨k + 1, by omega, by go_num, hB.trans (b3.mono hB.size), by rw [HTL.out, HTM.out, HP.out, HE.out]⟩
            case measure => simp [intOf]; omega
          · have hd : decide (p = q) = false := by simpa using he
            rw [hd]
            have hf : Hid (decide (L = M) = false) := by
              show decide (L = M) = false
              simpa using hne.out he
            clear he hd
            go_wp2
            go_ret
            exact ⟨by rw [hf.out]; rfl, hB.trans (b3.mono hB.size)⟩
      · obtain rfl : k = n := by omega
        have hf : Hid (decide (L = M) = true) := by
          show decide (L = M) = true
          have e := HP.out
          rw [List.take_of_length_le (by rw [HN.out]; exact Nat.le_refl _), List.take_of_length_le (by rw [HM.out]; exact Nat.le_refl _)] at e
          simpa using e
        go_wp2
        go_ret
        exact ⟨by rw [hf.out]; rfl, hB⟩
  · have hl2 : ¬ (n : Int) = (m : Int) := by omega
    go_enter Tryd.func38, Tryd.ntmps38
    go_wp2
    go_ret
    exact ⟨by simp [show L ≠ M from fun e => hl (by rw [← HN.out, ← HM.out, e])], Below.refl _ _⟩
end Go.Proofs.YteipcbpkgpffjaaDoor
