/-
  Lists of sums, and what they come to. Conditions: those of each theorem.
-/
import Derived.Test.YtadaaoljpeojcaaMoney
import Derived.Lib.Hide
namespace Go.Proofs.Ytadaaoljpeojcaa
open Go.RowKit Go.WideShapes
set_option maxRecDepth 100000

/-- The sums of a slice, where it has any. -/
def IsInts (w : World) (a : Option Addr) (xs : List Int) : Prop :=
  xs = [] ∨ ∃ b off, a = some ⟨b, off, none⟩ ∧ b < w.heap.size ∧ ∀ i (h : i < xs.length), w.cell? ⟨b, off + i, none⟩ = some (.int .i64 xs[i])

theorem IsInts.below {w w' : World} {a : Option Addr} {xs : List Int} (h : IsInts w a xs) (hb : Below w.heap.size w w') : IsInts w' a xs := by
  rcases h with rfl | ⟨b, off, rfl, hlt, hc⟩
  · exact .inl rfl
  · exact .inr ⟨b, off, rfl, Nat.lt_of_lt_of_le hlt hb.size, fun i h => by rw [hb.cell hlt]; exact hc i h⟩

theorem Rd.ints {P : Program} {w : World} {t e : TypeId} {cs : List Value} (h : Rd P w t cs) (ht : P.underlying t = some (.slice e)) (he : P.underlying e = some (.int .i64)) (hs : P.cellsOf e = 1) :
    ∃ (a : Option Addr) (cap : Nat) (xs : List Int), cs = [.slice a xs.length cap] ∧ xs.length ≤ cap ∧ cap ≤ maxLen ∧ IsInts w a xs := by
  obtain ⟨a, len, cap, hcs, hl, hm, hc, _⟩ := h.slice_at ht hs (Nat.one_pos)
  rcases hc with h0 | ⟨b, off, rfl, hb, hi⟩
  · obtain rfl : len = 0 := by omega
    exact ⟨a, cap, [], hcs, hl, hm, .inl rfl⟩
  · have key : ∀ i, i < cap → ∃ x : Int, w.cell? ⟨b, off + i, none⟩ = some (.int .i64 x) := by
      intro i hlt
      obtain ⟨cs', _, h1, h2⟩ := hi i hlt
      obtain ⟨n, rfl, hn⟩ := h2.int he
      have := h1 0 Nat.one_pos
      simp only [Nat.mul_one, Nat.add_zero, List.getElem?_cons_zero] at this
      exact ⟨n, this⟩
    have hch : ∃ f : Nat → Int, ∀ i, i < cap → w.cell? ⟨b, off + i, none⟩ = some (.int .i64 (f i)) :=
      ⟨fun i => if h : i < cap then Classical.choose (key i h) else 0, fun i h => by simp only [dif_pos h]; exact Classical.choose_spec (key i h)⟩
    obtain ⟨f, hf⟩ := hch
    refine ⟨some ⟨b, off, none⟩, cap, (List.range len).map f, by simpa using hcs, by simpa using hl, hm, .inr ⟨b, off, rfl, hb, fun i h => ?_⟩⟩
    simp only [List.length_map, List.length_range] at h
    simp only [List.getElem_map, List.getElem_range]
    exact hf i (by omega)

/-- What a list comes to, behind what came so far; none: it is refused on the way. -/
def sumOf : Int → List Int → Option Int
  | s, [] => some s
  | s, a :: l => if Rt a && Rt (s + a) then sumOf (s + a) l else none

def sumV : Option Int → Int
  | some v => v
  | none => 0

def sumE : Option Int → Int
  | some _ => 0
  | none => 9

set_option maxHeartbeats 800000 in
theorem cents_sum (a : Option Addr) (xs : List Int) (n c : Nat) (w : World) (hn : xs.length = n) (hx : IsInts w a xs) (hl : n ≤ maxLen) :
    Calls Try.prog 15 #[.slice a n c] w fun e w' => e = .returned (.tuple #[.int .i64 (sumV (sumOf 0 xs)), .int .i64 (sumE (sumOf 0 xs))]) ∧ w = w' := by
  unfold maxLen at hl
  have HN := Lib.hid hn
  clear hn
  go_enter Try.func15, Try.ntmps15
  go_wp2
  go_loop [4, 6, 7, 8, 11] (fun s _ _ _ i => ∃ (k : Nat) (v : Int), k ≤ n ∧ i = .int .i64 k ∧ s = .int .i64 v ∧ Rt v = true ∧ sumOf 0 xs = sumOf v (xs.drop k)) (fun _ _ _ _ i => n - (intOf i).toNat)
  case atStart => exact ⟨0, 0, Nat.zero_le _, rfl, rfl, by decide, rfl⟩
  case round =>
    obtain ⟨k, v, hk, rfl, rfl, hv, hs⟩ := hrel
    have HS := Lib.hid hs
    clear hs
    by_cases hlt : k < n
    · rcases hx with rfl | ⟨b, off, rfl, hb, hcs⟩
      · have := HN.out; simp at this; omega
      have hlk : k < xs.length := by rw [HN.out]; exact hlt
      have hck := hcs k hlk
      clear hcs
      have hk0 : (0 : Int) ≤ (k : Int) := by omega
      have hkn : (k : Int) < (n : Int) := by omega
      have hd : Hid (xs.drop k = xs[k] :: xs.drop (k + 1)) := List.drop_eq_getElem_cons hlk
      generalize xs[k] = x at *
      have hA := cents_add v x w
      rw [hv, Bool.true_and] at hA
      go_wp2_with fail
      by_cases hc : (Rt x && Rt (v + x)) = true
      · have hcx : Rt x = true := by simp only [Bool.and_eq_true] at hc; exact hc.1
        have hcv : Rt (v + x) = true := by simp only [Bool.and_eq_true] at hc; exact hc.2
        rw [told_yes hc] at hA
        refine hA.mono ?_
        rintro e w1 ⟨rfl, rfl⟩
        have HC := Lib.hid hc
        clear hc
        go_wp2
        go_round
        case rel =>
          refine ⟨k + 1, v + x, by omega, by go_num, rfl, hcv, ?_⟩
          rw [HS.out, hd.out, sumOf, if_pos HC.out]
        case measure => simp [intOf]; omega
      · have hc : (Rt x && Rt (v + x)) = false := by simpa using hc
        rw [told_no hc] at hA
        refine hA.mono ?_
        rintro e w1 ⟨rfl, rfl⟩
        have hno : Hid (sumOf 0 xs = none) := by
          show sumOf 0 xs = none
          rw [HS.out, hd.out, sumOf, hc]
          rfl
        clear hc
        go_wp2
        go_ret2
        exact ⟨by rw [hno.out]; rfl, rfl⟩
    · obtain rfl : k = n := by omega
      have hno : Hid (sumOf 0 xs = some v) := by
        show sumOf 0 xs = some v
        rw [HS.out, List.drop_of_length_le (by have := HN.out; omega)]
        rfl
      go_wp2
      go_ret2
      exact ⟨by rw [hno.out]; rfl, rfl⟩

end Go.Proofs.Ytadaaoljpeojcaa
