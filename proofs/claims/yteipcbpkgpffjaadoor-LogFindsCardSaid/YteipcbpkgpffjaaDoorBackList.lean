/-
  Frames one behind the other, over lists; an argument that is a list of lists of bytes. Conditions: those of each theorem.
-/
import Derived.Test.YteipcbpkgpffjaaDoorEach
import Derived.Test.YteipcbpkgpffjaaDoorLists
namespace Go.Proofs.YteipcbpkgpffjaaDoor
open Go.RowKit Go.WideShapes
set_option maxRecDepth 100000

/-- Frames, one behind the other. -/
def catF (L : List (List UInt8)) : List UInt8 := L.flatMap frameOf
theorem catF_nil : catF [] = [] := rfl
theorem catF_snoc (L : List (List UInt8)) (x : List UInt8) : catF (L ++ [x]) = catF L ++ frameOf x := by simp [catF]
theorem catF_cons (x : List UInt8) (L : List (List UInt8)) : catF (x :: L) = frameOf x ++ catF L := by simp [catF]
/-- Each goes into a frame. -/
def Good (L : List (List UInt8)) : Prop := ∀ x ∈ L, 1 ≤ x.length ∧ x.length ≤ 60000
theorem Good.take {L : List (List UInt8)} {k : Nat} (h : Good (L.take k)) (hk : k < L.length) (h1 : 1 ≤ L[k].length) (h2 : L[k].length ≤ 60000) : Good (L.take (k + 1)) := by
  intro x hx
  rw [List.take_succ_eq_append_getElem hk] at hx
  rcases List.mem_append.1 hx with hx | hx
  · exact h x hx
  · rw [List.mem_singleton.1 hx]
    exact ⟨h1, h2⟩
theorem frames_cat {L : List (List UInt8)} (h : Good L) (r : List UInt8) : frames (catF L ++ r) = L ++ frames r := by
  induction L with
  | nil => rfl
  | cons x L ih =>
    have hx := h x (List.mem_cons_self ..)
    rw [catF_cons, List.append_assoc, frames_of x _ hx.1 hx.2, ih (fun y hy => h y (List.mem_cons_of_mem _ hy))]
    rfl
theorem frames_torn (x : List UInt8) (k : Nat) (h2 : x.length ≤ 60000) (hk : k < 7 + x.length) : frames ((frameOf x).take k) = [] := frames_none (frameAt_torn x k h2 hk)
theorem catF_len (L : List (List UInt8)) (j : Nat) : j + (catF L).length = endOf j L := by
  induction L generalizing j with
  | nil => rfl
  | cons x L ih =>
    have h := frameOf_len x
    rw [catF_cons, List.length_append, endOf, ← ih, h]
    omega
theorem catF_bound {L : List (List UInt8)} {b : Nat} (h : ∀ x ∈ L, x.length ≤ b) : (catF L).length ≤ L.length * (7 + b) := by
  induction L with
  | nil => simp [catF]
  | cons x L ih =>
    have h1 := ih (fun y hy => h y (List.mem_cons_of_mem _ hy))
    have h2 := h x (List.mem_cons_self ..)
    have h3 := frameOf_len x
    rw [catF_cons, List.length_append, List.length_cons, Nat.add_mul, Nat.one_mul, h3]
    omega

theorem cells_bytes' : Tryd.prog.cellsOf 22 = 1 := by kernel_rfl
theorem cells_byte' : Tryd.prog.cellsOf 5 = 1 := by kernel_rfl
/-- An argument that is a list of lists of bytes. -/
theorem lists_of {w : World} {a : Option Addr} {n c : Nat} (h : Rd Tryd.prog w 33 [.slice a n c]) : ∃ L : List (List UInt8), L.length = n ∧ ListsAt w a L ∧ n ≤ c ∧ c ≤ maxLen := by
  obtain ⟨a', n', c', e, hn, hc, hr, _⟩ := h.slice_at Tryd.underlying33 cells_bytes' Nat.one_pos
  injection e with e _
  injection e with e1 e2 e3
  subst e1 e2 e3
  rcases hr with h0 | ⟨b, off, rfl, hb, hi⟩
  · obtain rfl : n = 0 := by omega
    exact ⟨[], rfl, .inl rfl, hn, hc⟩
  · have key : ∀ i, i < n → ∃ (x : List UInt8) (ad : Option Addr) (c : Nat), w.cell? ⟨b, off + i, none⟩ = some (.slice ad x.length c) ∧ IsBytes w ad x ∧ x.length ≤ c ∧ c ≤ maxLen ∧ (ad = none → c = 0) := by
      intro i hlt
      obtain ⟨cs', hl, hat, hrd⟩ := hi i (by omega)
      obtain ⟨ad, cap, xs, rfl, h1, h2, h3, h4⟩ := hrd.bytes Tryd.underlying22 Tryd.underlying5 cells_byte'
      have := hat 0 Nat.one_pos
      rw [Nat.mul_one, Nat.add_zero] at this
      exact ⟨xs, ad, cap, this, h3, h1, h2, h4⟩
    have hch : ∃ f : Nat → List UInt8, ∀ i, i < n → ∃ (ad : Option Addr) (c : Nat), w.cell? ⟨b, off + i, none⟩ = some (.slice ad (f i).length c) ∧ IsBytes w ad (f i) ∧ (f i).length ≤ c ∧ c ≤ maxLen ∧ (ad = none → c = 0) :=
      ⟨fun i => if h : i < n then Classical.choose (key i h) else [], fun i h => by simp only [dif_pos h]; exact Classical.choose_spec (key i h)⟩
    obtain ⟨f, hf⟩ := hch
    refine ⟨(List.range n).map f, by simp, .inr ⟨b, off, rfl, hb, fun i h => ?_⟩, hn, hc⟩
    simp only [List.length_map, List.length_range] at h
    simp only [List.getElem_map, List.getElem_range]
    exact hf i h
end Go.Proofs.YteipcbpkgpffjaaDoor
