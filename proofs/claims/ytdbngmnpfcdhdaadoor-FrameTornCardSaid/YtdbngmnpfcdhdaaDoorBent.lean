/-
  Frames one behind the other of which one byte is changed: what is told of them. Conditions: those of each theorem.
-/
import Derived.Test.YtdbngmnpfcdhdaaDoorBackList
namespace Go.Proofs.YtdbngmnpfcdhdaaDoor
open Go.RowKit Go.WideShapes
set_option maxRecDepth 100000

theorem places_at (j : Nat) (L : List (List UInt8)) {i : Nat} (h : i < L.length) : (places j L)[i]? = some (endOf j (L.take (i + 1))) := by
  induction L generalizing j i with
  | nil => simp at h
  | cons x L ih =>
    cases i with
    | zero => rfl
    | succ i => simpa [places, endOf] using ih (j + 7 + x.length) (i := i) (by simpa using h)
theorem endOf_next (j : Nat) (L : List (List UInt8)) {i : Nat} (h : i < L.length) : endOf j (L.take (i + 1)) = endOf j (L.take i) + 7 + L[i].length := by
  rw [List.take_succ_eq_append_getElem h, endOf_snoc]
theorem catF_append (L M : List (List UInt8)) : catF (L ++ M) = catF L ++ catF M := by simp [catF]
theorem frames_head {b y : List UInt8} {M : List (List UInt8)} (h : frames b = y :: M) : frameAt b = some y := by
  cases e : frameAt b with
  | none => rw [frames_none e] at h; cases h
  | some x =>
    rw [frames_some e] at h
    injection h with h _
    rw [h]
/-- What is told of frames of which one byte is changed: those ahead of it; and no frame that ends where the changed one ends. -/
theorem frames_bent {L : List (List UInt8)} (hG : Good L) {N k : Nat} (hN : N < L.length) (c : UInt8) (hlo : endOf 0 (L.take N) ≤ k) (hhi : k < endOf 0 (L.take (N + 1))) (hk : k < (catF L).length) (hc : c ≠ (catF L)[k]) :
    ∃ R, frames ((catF L).set k c) = L.take N ++ R ∧ ∀ y M, R = y :: M → y.length ≠ L[N].length := by
  rw [endOf_next 0 L hN] at hhi
  have hx := hG L[N] (List.getElem_mem hN)
  have hl : (catF (L.take N)).length = endOf 0 (L.take N) := by rw [← catF_len, Nat.zero_add]
  have hsplit : catF L = catF (L.take N) ++ (frameOf L[N] ++ catF (L.drop (N + 1))) := by
    have h1 : L = L.take N ++ L[N] :: L.drop (N + 1) := by rw [List.getElem_cons_drop, List.take_append_drop]
    have h2 := congrArg catF h1
    rw [catF_append, catF_cons] at h2
    exact h2
  have hf := frameOf_len L[N]
  have hset : (catF L).set k c = catF (L.take N) ++ ((frameOf L[N]).set (k - endOf 0 (L.take N)) c ++ catF (L.drop (N + 1))) := by
    rw [hsplit, List.set_append_right _ _ (by omega), hl, List.set_append_left _ _ (by omega)]
  have hne : (frameOf L[N])[k - endOf 0 (L.take N)]? ≠ some c := by
    intro e
    have h1 : (catF L)[k]? = some c := by
      rw [hsplit, List.getElem?_append_right (by omega), hl, List.getElem?_append_left (by omega), e]
    rw [List.getElem?_eq_getElem hk] at h1
    injection h1 with h1
    exact hc h1.symm
  have hgt : Good (L.take N) := fun x hx => hG x (List.mem_of_mem_take hx)
  refine ⟨frames ((frameOf L[N]).set (k - endOf 0 (L.take N)) c ++ catF (L.drop (N + 1))), by rw [hset, frames_cat hgt], fun y M hR => ?_⟩
  exact frameAt_bent L[N] _ hx.1 hx.2 _ (by omega) c hne (frames_head hR)
/-- What the statement asks of them. -/
theorem frames_told {L : List (List UInt8)} (hG : Good L) {N k : Nat} (hN : N < L.length) (c : UInt8) (hlo : endOf 0 (L.take N) ≤ k) (hhi : k < endOf 0 (L.take (N + 1))) (hk : k < (catF L).length) (hc : c ≠ (catF L)[k]) :
    N ≤ (frames ((catF L).set k c)).length ∧ (frames ((catF L).set k c)).take N = L.take N ∧ (N < (frames ((catF L).set k c)).length → ∃ z, (places 0 (frames ((catF L).set k c)))[N]? = some z ∧ z ≠ endOf 0 (L.take (N + 1))) := by
  obtain ⟨R, h1, h2⟩ := frames_bent hG hN c hlo hhi hk hc
  have hl : (L.take N).length = N := by rw [List.length_take]; omega
  rw [h1]
  refine ⟨by rw [List.length_append, hl]; omega, by rw [List.take_append_of_le_length (by omega), List.take_of_length_le (by omega)], fun h3 => ?_⟩
  refine ⟨_, places_at 0 _ h3, ?_⟩
  rw [List.length_append, hl] at h3
  cases R with
  | nil => simp at h3
  | cons y M =>
    have h4 := h2 y M rfl
    have h5 : (L.take N ++ y :: M).take (N + 1) = L.take N ++ [y] := by
      rw [List.take_append, List.take_of_length_le (by omega), hl]
      simp
    rw [h5, endOf_snoc, endOf_next 0 L hN]
    omega
end Go.Proofs.YtdbngmnpfcdhdaaDoor
