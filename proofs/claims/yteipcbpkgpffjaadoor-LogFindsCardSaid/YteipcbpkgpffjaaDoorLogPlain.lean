/-
  A log's file, over lists: its frames, what a torn end leaves of them, which of two files counts. No program. Conditions: those of each theorem.
-/
import Derived.Test.YteipcbpkgpffjaaDoorBackList
namespace Go.Proofs.YteipcbpkgpffjaaDoor
open Go.RowKit Go.WideShapes
set_option maxRecDepth 100000

/-- The first text of a log's file. -/
def headF (g : Nat) (im : List UInt8) : List UInt8 := le (g : Int) 4 ++ im
theorem headF_len (g : Nat) (im : List UInt8) : (headF g im).length = 4 + im.length := by rw [headF, List.length_append, le_length]
theorem headF_num {g : Nat} (im : List UInt8) (h : g < 4294967296) : numLe ((headF g im).take 4) = g := by
  have e : (headF g im).take 4 = le (g : Int) 4 := by
    rw [headF, List.take_append_of_le_length (by rw [le_length]; exact Nat.le_refl _), List.take_of_length_le (by rw [le_length]; exact Nat.le_refl _)]
  rw [e, numLe_le]
  omega
theorem headF_image (g : Nat) (im : List UInt8) : (headF g im).drop 4 = im := by
  rw [headF, List.drop_append_of_le_length (by rw [le_length]; exact Nat.le_refl _), List.drop_of_length_le (by rw [le_length]; exact Nat.le_refl _), List.nil_append]
/-- A log's file. -/
def logF (g : Nat) (im : List UInt8) (R : List (List UInt8)) : List UInt8 := catF (headF g im :: R)
theorem logF_len (g : Nat) (im : List UInt8) (R : List (List UInt8)) : (logF g im R).length = 11 + im.length + (catF R).length := by
  rw [logF, catF_cons, List.length_append, frameOf_len, headF_len]
  omega
theorem logF_snoc (g : Nat) (im : List UInt8) (R : List (List UInt8)) (x : List UInt8) : logF g im (R ++ [x]) = logF g im R ++ frameOf x := by
  rw [logF, logF, ← List.cons_append, catF_snoc]
theorem Good.cons {x : List UInt8} {L : List (List UInt8)} (h1 : 1 ≤ x.length) (h2 : x.length ≤ 60000) (h : Good L) : Good (x :: L) := fun y hy => by
  rcases List.mem_cons.1 hy with rfl | hy
  · exact ⟨h1, h2⟩
  · exact h y hy
theorem Good.snoc {x : List UInt8} {L : List (List UInt8)} (h1 : 1 ≤ x.length) (h2 : x.length ≤ 60000) (h : Good L) : Good (L ++ [x]) := fun y hy => by
  rcases List.mem_append.1 hy with hy | hy
  · exact h y hy
  · rw [List.mem_singleton.1 hy]
    exact ⟨h1, h2⟩
theorem logF_good {g : Nat} {im : List UInt8} {R : List (List UInt8)} (him : im.length ≤ 59996) (hR : Good R) : Good (headF g im :: R) :=
  Good.cons (by rw [headF_len]; omega) (by rw [headF_len]; omega) hR
/-- What is told of a log's file, whatever part of another frame stands behind it. -/
theorem logF_frames {g : Nat} {im : List UInt8} {R : List (List UInt8)} (him : im.length ≤ 59996) (hR : Good R) : frames (logF g im R) = headF g im :: R := by
  have h := frames_cat (logF_good (g := g) him hR) []
  rw [List.append_nil, frames_none (frameAt_short (b := []) (by decide)), List.append_nil] at h
  exact h
theorem logF_torn {g : Nat} {im : List UInt8} {R : List (List UInt8)} (him : im.length ≤ 59996) (hR : Good R) (x : List UInt8) (h1 : 1 ≤ x.length) (h2 : x.length ≤ 60000) (k : Nat) :
    frames (logF g im R ++ (frameOf x).take k) = if k < 7 + x.length then headF g im :: R else headF g im :: (R ++ [x]) := by
  by_cases hk : k < 7 + x.length
  · rw [if_pos hk, logF, frames_cat (logF_good him hR), frames_torn x k h2 hk, List.append_nil]
  · rw [if_neg hk, List.take_of_length_le (by rw [frameOf_len]; omega), ← logF_snoc, logF_frames him (hR.snoc h1 h2)]
/-- The power went off while x was put behind B, of which all was safe: n bytes are left, and B's are among them. -/
theorem left_torn (B x : List UInt8) (h n : Nat) (hn : B.length ≤ n) : (B ++ (frameOf x).take h).take n = B ++ (frameOf x).take (min (n - B.length) h) := by
  rw [List.take_append, List.take_of_length_le hn, List.take_take]
/-- The place behind the last whole frame. -/
theorem logF_whole {g : Nat} {im : List UInt8} {R : List (List UInt8)} : endOf 0 (headF g im :: R) = (logF g im R).length := by
  rw [logF, ← catF_len, Nat.zero_add]
theorem logF_take {g : Nat} {im : List UInt8} {R : List (List UInt8)} (r : List UInt8) : (logF g im R ++ r).take (endOf 0 (headF g im :: R)) = logF g im R := by
  rw [logF_whole, List.take_append_of_le_length (Nat.le_refl _), List.take_of_length_le (Nat.le_refl _)]
/-- The number with which a file begins; 0: it begins with none. -/
def genOf (b : List UInt8) : Nat :=
  match frames b with
  | [] => 0
  | x :: _ => if x.length < 4 then 0 else numLe (x.take 4)
theorem genOf_log {g : Nat} {im : List UInt8} {R : List (List UInt8)} {b : List UInt8} (hg : g < 4294967296) (h : frames b = headF g im :: R) : genOf b = g := by
  unfold genOf
  rw [h]
  show (if (headF g im).length < 4 then 0 else numLe ((headF g im).take 4)) = g
  rw [if_neg (by rw [headF_len]; omega), headF_num im hg]
/-- The file that counts, of the two (0: none). -/
def counts (b1 b2 : List UInt8) : Nat := if genOf b1 < genOf b2 then 2 else if 0 < genOf b1 then 1 else 0
theorem counts_first {b1 b2 : List UInt8} (h : 0 < genOf b1) (h2 : genOf b2 ≤ genOf b1) : counts b1 b2 = 1 := by
  unfold counts
  rw [if_neg (by omega), if_pos h]
theorem counts_second {b1 b2 : List UInt8} (h : genOf b1 < genOf b2) : counts b1 b2 = 2 := by
  unfold counts
  rw [if_pos h]
theorem genOf_none {b : List UInt8} (h : b.length < 8) : genOf b = 0 := by
  unfold genOf
  rw [frames_none (frameAt_short h)]
/-- A file that counts begins with a text of at least four bytes. -/
theorem genOf_pos {b : List UInt8} (h : 0 < genOf b) : ∃ x R, frames b = x :: R ∧ 4 ≤ x.length ∧ numLe (x.take 4) = genOf b := by
  unfold genOf at h ⊢
  cases e : frames b with
  | nil => rw [e] at h; simp at h
  | cons x R =>
    rw [e] at h
    by_cases h4 : x.length < 4
    · simp [h4] at h
    · exact ⟨x, R, rfl, by omega, by simp [h4]⟩
end Go.Proofs.YteipcbpkgpffjaaDoor
