/-
  A policy in a box of the call's own, and rows of policies that grow; a policy out of bytes. Conditions: those of each theorem.
-/
import Derived.Test.YtbiompjhenkieaaGreatTabX
namespace Go.Proofs.YtbiompjhenkieaaGreat
open Go.RowKit
set_option maxRecDepth 100000

theorem le_two {xs : List UInt8} (h : xs.length = 2) : le ((numLe xs : Nat) : Int) 2 = xs := by
  match xs, h with
  | [a, b], _ =>
    have ha := a.toNat_lt
    have hb := b.toNat_lt
    have e : ((numLe [a, b] : Nat) : Int) = a.toNat + 256 * b.toNat := by simp [numLe]
    rw [e]
    have h0 : byteAt ((a.toNat : Int) + 256 * (b.toNat : Int)) 0 = a := by
      apply UInt8.toNat_inj.1
      have := byteAt_int ((a.toNat : Int) + 256 * (b.toNat : Int)) 0
      simp only [Nat.mul_zero, Int.pow_zero, Int.ediv_one] at this
      omega
    have h1 : byteAt ((a.toNat : Int) + 256 * (b.toNat : Int)) 1 = b := by
      apply UInt8.toNat_inj.1
      have := byteAt_int ((a.toNat : Int) + 256 * (b.toNat : Int)) 1
      simp only [Nat.mul_one] at this
      rw [show (2 : Int) ^ 8 = 256 from rfl] at this
      omega
    simp [le, List.range_succ, h0, h1]

def putAt (g : Nat → Int) (k : Nat) (v : Int) : Nat → Int := fun i => if i = k then v else g i
theorem putAt_same (g : Nat → Int) (k : Nat) (v : Int) : putAt g k v k = v := by unfold putAt; rw [if_pos rfl]
theorem putAt_other (g : Nat → Int) {k i : Nat} (v : Int) (h : i ≠ k) : putAt g k v i = g i := by unfold putAt; rw [if_neg h]
def Pol.setFee (p : Pol) (k : Nat) (v : Int) : Pol := { p with fee := putAt p.fee k v }
def Pol.setShare (p : Pol) (k : Nat) (v : Int) : Pol := { p with share := putAt p.share k v }
def Pol.setDest (p : Pol) (k : Nat) (v : Int) : Pol := { p with dest := putAt p.dest k v }
def Pol.setGrade (p : Pol) (k : Nat) (s t : Int) : Pol := (p.setShare k s).setDest k t
theorem feeBytes_set (p : Pol) (k : Nat) (v : Int) : ∀ j, j ≤ k → feeBytes (p.setFee k v) j = feeBytes p j
  | 0, _ => rfl
  | j + 1, h => by
    show feeBytes (p.setFee k v) j ++ le (putAt p.fee k v j) 2 = _
    rw [feeBytes_set p k v j (by omega), putAt_other p.fee v (show j ≠ k by omega)]
    rfl
theorem gradeBytes_set (p : Pol) (k : Nat) (s t : Int) : ∀ j, j ≤ k → gradeBytes (p.setGrade k s t) j = gradeBytes p j
  | 0, _ => rfl
  | j + 1, h => by
    show gradeBytes (p.setGrade k s t) j ++ (le (putAt p.share k s j) 2 ++ [u8of (putAt p.dest k t j)]) = _
    rw [gradeBytes_set p k s t j (by omega), putAt_other p.share s (show j ≠ k by omega), putAt_other p.dest t (show j ≠ k by omega)]
    rfl
theorem gradeBytes_setFee (p : Pol) (k : Nat) (v : Int) : ∀ j, gradeBytes (p.setFee k v) j = gradeBytes p j
  | 0 => rfl
  | j + 1 => by simp only [gradeBytes, gradeBytes_setFee p k v j]; rfl
theorem feeBytes_setGrade (p : Pol) (k : Nat) (s t : Int) : ∀ j, feeBytes (p.setGrade k s t) j = feeBytes p j
  | 0 => rfl
  | j + 1 => by simp only [feeBytes, feeBytes_setGrade p k s t j]; rfl

/-- A policy in a box that may be written. -/
structure PolBox (w : World) (g : Nat) (p : Pol) : Prop where
  at0 : PolAt w g 0 p
  fz : ∀ j, w.frozen? ⟨g, j, none⟩ = false
theorem polBox_new (w : World) (p : Pol) (t : TypeId) : PolBox (w.alloc (.cells p.arr t)) w.heap.size p := ⟨pol_new w p t, fun j => World.frozen?_alloc_new w p.arr t j⟩
theorem PolBox.below {w w' : World} {g B : Nat} {p : Pol} (h : PolBox w g p) (k : Below B w w') (hB : g < B) : PolBox w' g p :=
  ⟨h.at0.below k hB, fun j => (k.frozen (p := ⟨g, j, none⟩) hB).trans (h.fz j)⟩
theorem PolBox.drew {w : World} {g : Nat} {p : Pol} (h : PolBox w g p) : PolBox w.drew g p := ⟨⟨h.at0.lt, h.at0.cells⟩, h.fz⟩
theorem PolBox.upd {S : Nat → Prop} {w w' : World} {g : Nat} {p : Pol} (h : PolBox w g p) (k : Upd S w w') (hg : ¬ S g) : PolBox w' g p :=
  ⟨⟨Nat.lt_of_lt_of_le h.at0.lt k.size, fun j v hj => (k.cell (p := ⟨g, 0 + j, none⟩) h.at0.lt hg).trans (h.at0.cells j v hj)⟩, fun j => (k.frozen (p := ⟨g, j, none⟩) h.at0.lt hg).trans (h.fz j)⟩
theorem pol_arr_cases {p q : Pol} {j : Nat} {v : Value} (hj : q.arr[j]? = some v) (a : Nat) (u : Value) (ha : ∀ v, q.arr[a]? = some v → v = u) (ho : j ≠ a → p.arr[j]? = some v) {w : World} {g : Nat} (h : PolBox w g p) (hs : (w.cell? ⟨g, a, none⟩).isSome) :
    (w.setCell ⟨g, a, none⟩ u).cell? ⟨g, 0 + j, none⟩ = some v := by
  rw [Nat.zero_add]
  by_cases e : j = a
  · subst e
    rw [ha v hj]
    obtain ⟨x, hx⟩ := Option.isSome_iff_exists.1 hs
    exact cell_same hx
  · rw [cell_other e]
    have := h.at0.cells j v (ho e)
    rwa [Nat.zero_add] at this
theorem PolBox.setFee {w : World} {g : Nat} {p : Pol} (h : PolBox w g p) (k : Nat) (hk : k < 4) (v : Int) : PolBox (w.setCell ⟨g, 4 + k, none⟩ (.int .i64 v)) g (p.setFee k v) := by
  refine ⟨⟨by simpa [setCell_size] using h.at0.lt, fun j x hj => ?_⟩, fun j => by simpa using h.fz j⟩
  refine pol_arr_cases (p := p) hj (4 + k) _ ?_ ?_ h (by rw [h.at0.fee k hk]; rfl)
  · intro y hy
    match k, hk with
    | 0, _ => exact (Option.some.inj hy).symm
    | 1, _ => exact (Option.some.inj hy).symm
    | 2, _ => exact (Option.some.inj hy).symm
    | 3, _ => exact (Option.some.inj hy).symm
  · intro hne
    rw [← hj]
    have hj16 : j < 16 := (Array.getElem?_eq_some_iff.1 hj).1
    match k, hk, j, hj16 with
    | 0, _, 0, _ | 0, _, 1, _ | 0, _, 2, _ | 0, _, 3, _ | 0, _, 5, _ | 0, _, 6, _ | 0, _, 7, _ | 0, _, 8, _ | 0, _, 9, _ | 0, _, 10, _ | 0, _, 11, _ | 0, _, 12, _ | 0, _, 13, _ | 0, _, 14, _ | 0, _, 15, _ => rfl
    | 1, _, 0, _ | 1, _, 1, _ | 1, _, 2, _ | 1, _, 3, _ | 1, _, 4, _ | 1, _, 6, _ | 1, _, 7, _ | 1, _, 8, _ | 1, _, 9, _ | 1, _, 10, _ | 1, _, 11, _ | 1, _, 12, _ | 1, _, 13, _ | 1, _, 14, _ | 1, _, 15, _ => rfl
    | 2, _, 0, _ | 2, _, 1, _ | 2, _, 2, _ | 2, _, 3, _ | 2, _, 4, _ | 2, _, 5, _ | 2, _, 7, _ | 2, _, 8, _ | 2, _, 9, _ | 2, _, 10, _ | 2, _, 11, _ | 2, _, 12, _ | 2, _, 13, _ | 2, _, 14, _ | 2, _, 15, _ => rfl
    | 3, _, 0, _ | 3, _, 1, _ | 3, _, 2, _ | 3, _, 3, _ | 3, _, 4, _ | 3, _, 5, _ | 3, _, 6, _ | 3, _, 8, _ | 3, _, 9, _ | 3, _, 10, _ | 3, _, 11, _ | 3, _, 12, _ | 3, _, 13, _ | 3, _, 14, _ | 3, _, 15, _ => rfl
    | 0, _, 4, _ | 1, _, 5, _ | 2, _, 6, _ | 3, _, 7, _ => exact absurd rfl hne
theorem PolBox.setShare {w : World} {g : Nat} {p : Pol} (h : PolBox w g p) (k : Nat) (hk : k < 4) (v : Int) : PolBox (w.setCell ⟨g, 8 + k * 2, none⟩ (.int .i64 v)) g (p.setShare k v) := by
  refine ⟨⟨by simpa [setCell_size] using h.at0.lt, fun j x hj => ?_⟩, fun j => by simpa using h.fz j⟩
  refine pol_arr_cases (p := p) hj (8 + k * 2) _ ?_ ?_ h (by rw [h.at0.share k hk]; rfl)
  · intro y hy
    match k, hk with
    | 0, _ => exact (Option.some.inj hy).symm
    | 1, _ => exact (Option.some.inj hy).symm
    | 2, _ => exact (Option.some.inj hy).symm
    | 3, _ => exact (Option.some.inj hy).symm
  · intro hne
    rw [← hj]
    have hj16 : j < 16 := (Array.getElem?_eq_some_iff.1 hj).1
    match k, hk, j, hj16 with
    | 0, _, 0, _ | 0, _, 1, _ | 0, _, 2, _ | 0, _, 3, _ | 0, _, 4, _ | 0, _, 5, _ | 0, _, 6, _ | 0, _, 7, _ | 0, _, 9, _ | 0, _, 10, _ | 0, _, 11, _ | 0, _, 12, _ | 0, _, 13, _ | 0, _, 14, _ | 0, _, 15, _ => rfl
    | 1, _, 0, _ | 1, _, 1, _ | 1, _, 2, _ | 1, _, 3, _ | 1, _, 4, _ | 1, _, 5, _ | 1, _, 6, _ | 1, _, 7, _ | 1, _, 8, _ | 1, _, 9, _ | 1, _, 11, _ | 1, _, 12, _ | 1, _, 13, _ | 1, _, 14, _ | 1, _, 15, _ => rfl
    | 2, _, 0, _ | 2, _, 1, _ | 2, _, 2, _ | 2, _, 3, _ | 2, _, 4, _ | 2, _, 5, _ | 2, _, 6, _ | 2, _, 7, _ | 2, _, 8, _ | 2, _, 9, _ | 2, _, 10, _ | 2, _, 11, _ | 2, _, 13, _ | 2, _, 14, _ | 2, _, 15, _ => rfl
    | 3, _, 0, _ | 3, _, 1, _ | 3, _, 2, _ | 3, _, 3, _ | 3, _, 4, _ | 3, _, 5, _ | 3, _, 6, _ | 3, _, 7, _ | 3, _, 8, _ | 3, _, 9, _ | 3, _, 10, _ | 3, _, 11, _ | 3, _, 12, _ | 3, _, 13, _ | 3, _, 15, _ => rfl
    | 0, _, 8, _ | 1, _, 10, _ | 2, _, 12, _ | 3, _, 14, _ => exact absurd rfl hne
theorem PolBox.setDest {w : World} {g : Nat} {p : Pol} (h : PolBox w g p) (k : Nat) (hk : k < 4) (v : Int) : PolBox (w.setCell ⟨g, 8 + k * 2 + 1, none⟩ (.int .i64 v)) g (p.setDest k v) := by
  refine ⟨⟨by simpa [setCell_size] using h.at0.lt, fun j x hj => ?_⟩, fun j => by simpa using h.fz j⟩
  refine pol_arr_cases (p := p) hj (8 + k * 2 + 1) _ ?_ ?_ h (by rw [h.at0.dest k hk]; rfl)
  · intro y hy
    match k, hk with
    | 0, _ => exact (Option.some.inj hy).symm
    | 1, _ => exact (Option.some.inj hy).symm
    | 2, _ => exact (Option.some.inj hy).symm
    | 3, _ => exact (Option.some.inj hy).symm
  · intro hne
    rw [← hj]
    have hj16 : j < 16 := (Array.getElem?_eq_some_iff.1 hj).1
    match k, hk, j, hj16 with
    | 0, _, 0, _ | 0, _, 1, _ | 0, _, 2, _ | 0, _, 3, _ | 0, _, 4, _ | 0, _, 5, _ | 0, _, 6, _ | 0, _, 7, _ | 0, _, 8, _ | 0, _, 10, _ | 0, _, 11, _ | 0, _, 12, _ | 0, _, 13, _ | 0, _, 14, _ | 0, _, 15, _ => rfl
    | 1, _, 0, _ | 1, _, 1, _ | 1, _, 2, _ | 1, _, 3, _ | 1, _, 4, _ | 1, _, 5, _ | 1, _, 6, _ | 1, _, 7, _ | 1, _, 8, _ | 1, _, 9, _ | 1, _, 10, _ | 1, _, 12, _ | 1, _, 13, _ | 1, _, 14, _ | 1, _, 15, _ => rfl
    | 2, _, 0, _ | 2, _, 1, _ | 2, _, 2, _ | 2, _, 3, _ | 2, _, 4, _ | 2, _, 5, _ | 2, _, 6, _ | 2, _, 7, _ | 2, _, 8, _ | 2, _, 9, _ | 2, _, 10, _ | 2, _, 11, _ | 2, _, 12, _ | 2, _, 14, _ | 2, _, 15, _ => rfl
    | 3, _, 0, _ | 3, _, 1, _ | 3, _, 2, _ | 3, _, 3, _ | 3, _, 4, _ | 3, _, 5, _ | 3, _, 6, _ | 3, _, 7, _ | 3, _, 8, _ | 3, _, 9, _ | 3, _, 10, _ | 3, _, 11, _ | 3, _, 12, _ | 3, _, 13, _ | 3, _, 14, _ => rfl
    | 0, _, 9, _ | 1, _, 11, _ | 2, _, 13, _ | 3, _, 15, _ => exact absurd rfl hne
theorem PolBox.setGrade {w : World} {g : Nat} {p : Pol} (h : PolBox w g p) (k : Nat) (hk : k < 4) (s t : Int) : PolBox ((w.setCell ⟨g, 8 + k * 2, none⟩ (.int .i64 s)).setCell ⟨g, 8 + k * 2 + 1, none⟩ (.int .i64 t)) g (p.setGrade k s t) :=
  (h.setShare k hk s).setDest k hk t

/-- Policies one behind the other, as cells. -/
def polCells (ps : List Pol) : List Value := (ps.map fun p => p.arr.toList).flatten
theorem polCells_snoc (ps : List Pol) (p : Pol) : polCells (ps ++ [p]) = polCells ps ++ p.arr.toList := by simp [polCells]
theorem polCells_length (ps : List Pol) : (polCells ps).length = ps.length * 16 := by
  induction ps with
  | nil => rfl
  | cons p ps ih =>
    simp only [polCells, List.map_cons, List.flatten_cons, List.length_append, List.length_cons] at ih ⊢
    rw [ih, show p.arr.toList.length = 16 from rfl]
    omega
theorem polCells_get : ∀ (ps : List Pol) (i j : Nat) (v : Value) (h : i < ps.length), j < 16 → ps[i].arr[j]? = some v → (polCells ps)[i * 16 + j]? = some v
  | p :: ps, 0, j, v, _, hj, hv => by
    show (p.arr.toList ++ polCells ps)[0 * 16 + j]? = some v
    rw [Nat.zero_mul, Nat.zero_add, List.getElem?_append_left (by show j < 16; exact hj), Array.getElem?_toList]
    exact hv
  | p :: ps, i + 1, j, v, h, hj, hv => by
    show (p.arr.toList ++ polCells ps)[(i + 1) * 16 + j]? = some v
    rw [List.getElem?_append_right (by show 16 ≤ _; omega), show (i + 1) * 16 + j - p.arr.toList.length = i * 16 + j by show (i + 1) * 16 + j - 16 = _; omega]
    exact polCells_get ps i j v (by simpa using h) hj (by simpa using hv)
theorem polsAt_of_row {w : World} {base n c : Nat} {t : TypeId} {a : Option Addr} {ps : List Pol} (h : w.ownsRow base t 16 (.slice a n c) n (polCells ps)) : PolsAt w a ps ∧ ps.length = n := by
  have hl : ps.length = n := by have := h.1; rw [polCells_length] at this; omega
  refine ⟨?_, hl⟩
  rcases h.2 with ⟨hv, hn⟩ | ⟨g, cap, cur, hv, _, hg, _, _, hcs, htk⟩
  · exact .inl (List.length_eq_zero_iff.1 (by omega))
  · injection hv with h1 _ _
    subst h1
    refine .inr ⟨g, 0, rfl, (Array.getElem?_eq_some_iff.1 hg).1, fun i hi => ⟨(Array.getElem?_eq_some_iff.1 hg).1, fun j v hj => ?_⟩⟩
    have hj16 : j < 16 := (Array.getElem?_eq_some_iff.1 hj).1
    have h2 := polCells_get ps i j v hi hj16 hj
    have hlt : i * 16 + j < n * 16 := by omega
    rw [← htk, List.getElem?_take, if_pos hlt, Array.getElem?_toList] at h2
    unfold World.cell?
    rw [hg]
    simp only [Nat.zero_add]
    exact h2
end Go.Proofs.YtbiompjhenkieaaGreat
