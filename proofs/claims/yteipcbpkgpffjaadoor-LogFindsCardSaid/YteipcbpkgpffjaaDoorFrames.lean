/-
  Frames, plainly: with what bytes begin; frames one behind the other; a frame cut off; a frame of which a byte is changed. No program. No conditions but those of each theorem.
-/
import Derived.Test.YteipcbpkgpffjaaDoorFrameRef
namespace Go.Proofs.YteipcbpkgpffjaaDoor
set_option maxRecDepth 100000

/-- The bytes of the frame with which b begins. -/
def frameAt (b : List UInt8) : Option (List UInt8) :=
  if 8 ≤ b.length ∧ b[0]? = some 165 then
    let n := numLe ((b.drop 1).take 2)
    if n < 1 ∨ 60000 < n ∨ b.length < 7 + n then none
    else if numLe ((b.drop 3).take 4) = crcSum ((b.drop 1).take 2 ++ (b.drop 7).take n) then some ((b.drop 7).take n) else none
  else none
theorem frameAt_some {b x : List UInt8} (h : frameAt b = some x) :
    8 ≤ b.length ∧ b[0]? = some 165 ∧ x.length = numLe ((b.drop 1).take 2) ∧ 1 ≤ x.length ∧ x.length ≤ 60000 ∧ 7 + x.length ≤ b.length ∧ x = (b.drop 7).take x.length ∧
      numLe ((b.drop 3).take 4) = crcSum ((b.drop 1).take 2 ++ x) := by
  unfold frameAt at h
  by_cases h0 : 8 ≤ b.length ∧ b[0]? = some 165
  · rw [if_pos h0] at h
    simp only at h
    generalize hn : numLe ((b.drop 1).take 2) = n at *
    by_cases h1 : n < 1 ∨ 60000 < n ∨ b.length < 7 + n
    · rw [if_pos h1] at h; cases h
    · rw [if_neg h1] at h
      by_cases h2 : numLe ((b.drop 3).take 4) = crcSum ((b.drop 1).take 2 ++ (b.drop 7).take n)
      · rw [if_pos h2] at h
        injection h with h
        subst h
        have hl : ((b.drop 7).take n).length = n := by simp; omega
        refine ⟨h0.1, h0.2, hl, by omega, by omega, by omega, by rw [hl], h2⟩
      · rw [if_neg h2] at h; cases h
  · rw [if_neg h0] at h; cases h
/-- Frames, one behind the other: at most so many. -/
def framesF : Nat → List UInt8 → List (List UInt8)
  | 0, _ => []
  | k + 1, b => match frameAt b with
    | none => []
    | some x => x :: framesF k (b.drop (7 + x.length))
def frames (b : List UInt8) : List (List UInt8) := framesF b.length b
theorem framesF_enough {b : List UInt8} : ∀ {k m : Nat}, b.length ≤ k → b.length ≤ m → framesF k b = framesF m b := by
  intro k
  induction k generalizing b with
  | zero =>
    intro m h _
    obtain rfl : b = [] := List.length_eq_zero_iff.1 (by omega)
    cases m with
    | zero => rfl
    | succ m => rfl
  | succ k ih =>
    intro m h1 h2
    cases m with
    | zero =>
      obtain rfl : b = [] := List.length_eq_zero_iff.1 (by omega)
      rfl
    | succ m =>
      simp only [framesF]
      cases hf : frameAt b with
      | none => rfl
      | some x =>
        have := frameAt_some hf
        simp only
        rw [ih (m := m) (by simp; omega) (by simp; omega)]
theorem frames_none {b : List UInt8} (h : frameAt b = none) : frames b = [] := by
  unfold frames
  cases hb : b.length with
  | zero => rfl
  | succ k => simp only [framesF, h]
theorem frames_some {b x : List UInt8} (h : frameAt b = some x) : frames b = x :: frames (b.drop (7 + x.length)) := by
  have h8 := (frameAt_some h).1
  unfold frames
  cases hb : b.length with
  | zero => omega
  | succ k =>
    simp only [framesF, h]
    rw [framesF_enough (m := (b.drop (7 + x.length)).length) (by simp; omega) (Nat.le_refl _)]
/-- The places behind frames. -/
def places : Nat → List (List UInt8) → List Nat
  | _, [] => []
  | i, x :: l => (i + 7 + x.length) :: places (i + 7 + x.length) l
theorem places_len (i : Nat) (l : List (List UInt8)) : (places i l).length = l.length := by
  induction l generalizing i with
  | nil => rfl
  | cons x l ih => simp [places, ih]

theorem frameOf_parts (x r : List UInt8) : let b := frameOf x ++ r
    b[0]? = some 165 ∧ (b.drop 1).take 2 = le x.length 2 ∧ (b.drop 3).take 4 = le (crcSum (le x.length 2 ++ x) : Nat) 4 ∧ (b.drop 7).take x.length = x ∧ b.length = 7 + x.length + r.length := by
  have h2 := le_length (x.length : Int) 2
  have h4 := le_length ((crcSum (le x.length 2 ++ x) : Nat) : Int) 4
  simp only [frameOf]
  generalize crcSum (le x.length 2 ++ x) = c at *
  generalize le (x.length : Int) 2 = l2 at *
  generalize le (c : Int) 4 = l4 at *
  match l2, h2, l4, h4 with
  | [p, q], _, [s, t, u, v], _ =>
    refine ⟨rfl, rfl, rfl, ?_, ?_⟩
    · simp
    · simp; omega
theorem frameAt_of (x r : List UInt8) (h1 : 1 ≤ x.length) (h2 : x.length ≤ 60000) : frameAt (frameOf x ++ r) = some x := by
  obtain ⟨p0, p1, p2, p3, p4⟩ := frameOf_parts x r
  unfold frameAt
  have hn : numLe (le (x.length : Int) 2) = x.length := by rw [numLe_le]; omega
  have hc : numLe (le ((crcSum (le x.length 2 ++ x) : Nat) : Int) 4) = crcSum (le x.length 2 ++ x) := by
    have := crcSum_lt (le x.length 2 ++ x)
    rw [numLe_le]; omega
  rw [if_pos ⟨by omega, p0⟩, p1, p2, hn]
  simp only
  rw [if_neg (by omega), p3, hc, if_pos rfl]
theorem frames_of (x r : List UInt8) (h1 : 1 ≤ x.length) (h2 : x.length ≤ 60000) : frames (frameOf x ++ r) = x :: frames r := by
  rw [frames_some (frameAt_of x r h1 h2)]
  have e : (frameOf x ++ r).drop (7 + x.length) = r := by
    rw [List.drop_append_of_le_length (by rw [frameOf_len]; exact Nat.le_refl _), List.drop_of_length_le (by rw [frameOf_len]; exact Nat.le_refl _)]
    rfl
  rw [e]
/-- A frame cut off begins with none. -/
theorem frameAt_torn (x : List UInt8) (k : Nat) (h2 : x.length ≤ 60000) (hk : k < 7 + x.length) : frameAt ((frameOf x).take k) = none := by
  cases hf : frameAt ((frameOf x).take k) with
  | none => rfl
  | some y =>
    exfalso
    obtain ⟨g0, _, g2, _, _, g5, _, _⟩ := frameAt_some hf
    have hl : ((frameOf x).take k).length = k := by rw [List.length_take, frameOf_len]; omega
    rw [hl] at g0 g5
    obtain ⟨_, p1, _, _, _⟩ := frameOf_parts x []
    rw [List.append_nil] at p1
    have e : (((frameOf x).take k).drop 1).take 2 = ((frameOf x).drop 1).take 2 := by
      rw [List.drop_take, List.take_take, Nat.min_eq_left (by omega)]
    rw [e, p1, numLe_le] at g2
    omega

theorem numLe_inj {l m : List UInt8} (h : l.length = m.length) (e : numLe l = numLe m) : l = m := by
  induction l generalizing m with
  | nil => exact (List.length_eq_zero_iff.1 h.symm).symm
  | cons b l ih =>
    cases m with
    | nil => simp at h
    | cons c m =>
      have hb := b.toNat_lt
      have hc := c.toNat_lt
      simp only [numLe] at e
      have e1 : b.toNat = c.toNat := by omega
      have e2 : numLe l = numLe m := by omega
      rw [UInt8.toNat_inj.1 e1, ih (by simpa using h) e2]
/-- Of a frame of which a byte is changed no frame of the same length is told. -/
theorem frameAt_bent (x r : List UInt8) (h1 : 1 ≤ x.length) (h2 : x.length ≤ 60000) (k : Nat) (hk : k < 7 + x.length) (c : UInt8) (hc : (frameOf x)[k]? ≠ some c) {y : List UInt8}
    (hy : frameAt ((frameOf x).set k c ++ r) = some y) : y.length ≠ x.length := by
  intro hyl
  obtain ⟨_, g1, g2, _, _, _, g6, g7⟩ := frameAt_some hy
  obtain ⟨p0, p1, p2, p3, p4⟩ := frameOf_parts x []
  simp only [List.append_nil, List.length_nil, Nat.add_zero] at p0 p1 p2 p3 p4
  have hb : ((frameOf x).set k c).length = 7 + x.length := by rw [List.length_set]; exact p4
  have at0 : ((frameOf x).set k c ++ r)[0]? = ((frameOf x).set k c)[0]? := List.getElem?_append_left (by omega)
  rw [at0] at g1
  have sub : ∀ i m, i + m ≤ 7 + x.length → (((frameOf x).set k c ++ r).drop i).take m = (((frameOf x).set k c).drop i).take m := by
    intro i m h
    rw [List.drop_append_of_le_length (by omega), List.take_append_of_le_length (by simp; omega)]
  rw [sub 1 2 (by omega)] at g2 g7
  rw [sub 3 4 (by omega)] at g7
  rw [hyl, sub 7 x.length (by omega)] at g6
  have keep : ∀ i m, (k < i ∨ i + m ≤ k) → (((frameOf x).set k c).drop i).take m = ((frameOf x).drop i).take m := by
    intro i m h
    apply List.ext_getElem?
    intro j
    rw [List.getElem?_take, List.getElem?_take]
    by_cases hj : j < m
    · rw [if_pos hj, if_pos hj, List.getElem?_drop, List.getElem?_drop, List.getElem?_set_ne (by omega)]
    · rw [if_neg hj, if_neg hj]
  by_cases k0 : k = 0
  · subst k0
    rw [List.getElem?_set_self (by omega)] at g1
    injection g1 with g1
    subst g1
    exact hc p0
  by_cases k12 : k < 3
  · have hl : ((((frameOf x).set k c).drop 1).take 2).length = (le (x.length : Int) 2).length := by rw [le_length]; simp; omega
    have hnum : numLe (le (x.length : Int) 2) = x.length := by rw [numLe_le]; omega
    have e := numLe_inj hl (by rw [← g2, hnum, hyl])
    have e2 : (((frameOf x).set k c).drop 1).take 2 = ((frameOf x).drop 1).take 2 := by rw [e, p1]
    have e3 := congrArg (fun l => l[k - 1]?) e2
    simp only [List.getElem?_take, List.getElem?_drop] at e3
    rw [if_pos (by omega), if_pos (by omega), show 1 + (k - 1) = k by omega, List.getElem?_set_self (by omega)] at e3
    exact hc e3.symm
  have q1 := keep 1 2 (.inr (by omega))
  rw [q1, p1] at g7
  have hcs : numLe (le ((crcSum (le x.length 2 ++ x) : Nat) : Int) 4) = crcSum (le x.length 2 ++ x) := by
    have := crcSum_lt (le x.length 2 ++ x)
    rw [numLe_le]; omega
  by_cases k36 : k < 7
  · have hyx : y = x := by rw [g6, keep 7 x.length (.inl (by omega)), p3]
    subst hyx
    have hl : ((((frameOf y).set k c).drop 3).take 4).length = (le ((crcSum (le y.length 2 ++ y) : Nat) : Int) 4).length := by rw [le_length]; simp; omega
    have e := numLe_inj hl (by rw [g7, hcs])
    have e2 : (((frameOf y).set k c).drop 3).take 4 = ((frameOf y).drop 3).take 4 := by rw [e, p2]
    have e3 := congrArg (fun l => l[k - 3]?) e2
    simp only [List.getElem?_take, List.getElem?_drop] at e3
    rw [if_pos (by omega), if_pos (by omega), show 3 + (k - 3) = k by omega, List.getElem?_set_self (by omega)] at e3
    exact hc e3.symm
  · rw [keep 3 4 (.inr (by omega)), p2, hcs] at g7
    have hyx : y = x.set (k - 7) c := by
      rw [g6]
      apply List.ext_getElem?
      intro j
      rw [List.getElem?_take]
      by_cases hj : j < x.length
      · rw [if_pos hj, List.getElem?_drop]
        have e3 := congrArg (fun l => l[j]?) p3
        simp only [List.getElem?_take, List.getElem?_drop] at e3
        rw [if_pos hj] at e3
        by_cases hjk : k = 7 + j
        · subst hjk
          rw [List.getElem?_set_self (by omega), show 7 + j - 7 = j by omega, List.getElem?_set_self hj]
        · rw [List.getElem?_set_ne hjk, List.getElem?_set_ne (by omega), e3]
      · rw [if_neg hj, List.getElem?_eq_none (by simp; omega)]
    have hkx : k - 7 < x.length := by omega
    have hold : (frameOf x)[k]? = x[k - 7]? := by
      have e3 := congrArg (fun l => l[k - 7]?) p3
      simp only [List.getElem?_take, List.getElem?_drop] at e3
      rw [if_pos hkx, show 7 + (k - 7) = k by omega] at e3
      exact e3
    have hx : x = x.take (k - 7) ++ x[k - 7] :: x.drop (k - 7 + 1) := by
      rw [← List.drop_eq_getElem_cons hkx, List.take_append_drop]
    have hs : x.set (k - 7) c = x.take (k - 7) ++ c :: x.drop (k - 7 + 1) := List.set_eq_take_append_cons_drop ▸ by rw [if_pos hkx]
    have g8 : crcSum (le x.length 2 ++ x) = crcSum (le x.length 2 ++ x.set (k - 7) c) := by rw [← hyx]; exact g7
    rw [hs] at g8
    have g9 : crcSum ((le x.length 2 ++ x.take (k - 7)) ++ x[k - 7] :: x.drop (k - 7 + 1)) = crcSum ((le x.length 2 ++ x.take (k - 7)) ++ c :: x.drop (k - 7 + 1)) := by
      rw [List.append_assoc, List.append_assoc, ← hx]
      exact g8
    have e := crcSum_one _ _ _ _ g9
    apply hc
    rw [hold, List.getElem?_eq_getElem hkx, e]
end Go.Proofs.YteipcbpkgpffjaaDoor
