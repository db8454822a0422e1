/-
  Reading what was put: what is read, and how it lies in the bytes. Conditions: those of each theorem.
-/
import Derived.Test.YtmaoimjfkncnpaaCodecB
import Derived.Test.YtmaoimjfkncnpaaOutX
namespace Go.Proofs.Ytmaoimjfkncnpaa
open Go.RowKit
set_option maxRecDepth 100000

/-- What was read of some bytes lies ahead in them, unless it is bad then; and whatever lies ahead is read. -/
structure Par {α : Type} (enc : α → List UInt8) (ok : α → Prop) (rest : List UInt8) (bad : Bool) (v : α) (rest' : List UInt8) (bad' : Bool) : Prop where
  fwd : bad' = false → bad = false ∧ ok v ∧ rest = enc v ++ rest'
  bwd : ∀ v0 t, bad = false → ok v0 → rest = enc v0 ++ t → v = v0 ∧ rest' = t ∧ bad' = false
theorem Par.seq {α β : Type} {e1 : α → List UInt8} {k1 : α → Prop} {e2 : β → List UInt8} {k2 : β → Prop} {r r1 r2 : List UInt8} {b b1 b2 : Bool} {v : α} {u : β} (h : Par e1 k1 r b v r1 b1) (k : Par e2 k2 r1 b1 u r2 b2) :
    Par (fun x : α × β => e1 x.1 ++ e2 x.2) (fun x => k1 x.1 ∧ k2 x.2) r b (v, u) r2 b2 := by
  refine ⟨fun hb => ?_, fun x t hb ho he => ?_⟩
  · obtain ⟨q1, q2, q3⟩ := k.fwd hb
    obtain ⟨p1, p2, p3⟩ := h.fwd q1
    exact ⟨p1, ⟨p2, q2⟩, by rw [p3, q3, List.append_assoc]⟩
  · rw [List.append_assoc] at he
    obtain ⟨p1, p2, p3⟩ := h.bwd x.1 _ hb ho.1 he
    obtain ⟨q1, q2, q3⟩ := k.bwd x.2 t p3 ho.2 p2
    exact ⟨by rw [p1, q1], q2, q3⟩
theorem Par.map {α β : Type} {e : α → List UInt8} {k : α → Prop} {e2 : β → List UInt8} {k2 : β → Prop} {r r1 : List UInt8} {b b1 : Bool} {v : α} (h : Par e k r b v r1 b1) (f : α → β) (g : β → α) (hfg : ∀ y, f (g y) = y) (he : ∀ x, k x → e2 (f x) = e x ∧ k2 (f x)) (hk : ∀ y, k2 y → k (g y) ∧ e (g y) = e2 y) : Par e2 k2 r b (f v) r1 b1 := by
  refine ⟨fun hb => ?_, fun y t hb ho h2 => ?_⟩
  · obtain ⟨q1, q2, q3⟩ := h.fwd hb
    obtain ⟨p1, p2⟩ := he v q2
    exact ⟨q1, p2, by rw [p1]; exact q3⟩
  · obtain ⟨p1, p2⟩ := hk y ho
    obtain ⟨q1, q2, q3⟩ := h.bwd (g y) t hb p1 (by rw [p2]; exact h2)
    exact ⟨by rw [q1, hfg], q2, q3⟩

theorem le_cons (v : Nat) (n : Nat) : le (v : Int) (n + 1) = byteAt (v : Int) 0 :: le ((v / 256 : Nat) : Int) n := by
  refine List.ext_getElem (by simp [le_length]) (fun i h1 h2 => ?_)
  rw [le_get]
  cases i with
  | zero => rfl
  | succ i =>
    rw [List.getElem_cons_succ, le_get]
    apply UInt8.toNat_inj.1
    rw [byteAt_nat, byteAt_nat, Nat.div_div_eq_div_mul]
    congr 2
    rw [show 8 * (i + 1) = 8 + 8 * i by omega, Nat.pow_add]
theorem le_numLe (l : List UInt8) : le ((numLe l : Nat) : Int) l.length = l := by
  induction l with
  | nil => rfl
  | cons b l ih =>
    rw [List.length_cons, le_cons, numLe]
    have hb := b.toNat_lt
    have e1 : (b.toNat + 256 * numLe l) / 256 = numLe l := by omega
    rw [e1, ih]
    congr 1
    apply UInt8.toNat_inj.1
    rw [byteAt_nat]
    simp
theorem fits_numLe (l : List UInt8) : fits ((numLe l : Nat) : Int) l.length = true := by
  have h := numLe_lt l
  unfold fits
  rw [decide_eq_true (by omega), Bool.true_and, decide_eq_true_eq]
  have e0 : (256 : Nat) ^ l.length = 2 ^ (8 * l.length) := by rw [Nat.pow_mul]
  have e : (2 : Int) ^ (8 * l.length) = ((256 ^ l.length : Nat) : Int) := by rw [e0]; push_cast; rfl
  rw [e]
  omega
theorem took_fwd {rest : List UInt8} {bad : Bool} {n : Nat} (h : (took rest bad n).2.2 = false) : bad = false ∧ (took rest bad n).1.length = n ∧ rest = (took rest bad n).1 ++ (took rest bad n).2.1 := by
  unfold took at *
  by_cases hc : canTake rest n = true
  · rw [if_pos hc] at *
    simp [canTake] at hc
    refine ⟨h, by simp; omega, by simp⟩
  · rw [if_neg hc] at h
    cases h
theorem took_bwd {bad : Bool} {n : Nat} (v : Int) (t : List UInt8) (hb : bad = false) : took (le v n ++ t) bad n = (le v n, t, false) := by
  subst hb
  have hc : canTake (le v n ++ t) n = true := by simp [canTake, le_length]; omega
  unfold took
  rw [hc, if_pos rfl]
  have e := le_length v n
  simp only [Int.toNat_natCast]
  rw [List.take_append_of_le_length (by omega), List.take_of_length_le (by omega), List.drop_append_of_le_length (by omega), List.drop_of_length_le (by omega)]
  rfl
theorem par_num (rest : List UInt8) (bad : Bool) (n : Nat) : Par (fun v : Int => le v n) (fun v => fits v n = true) rest bad ((numLe (took rest bad n).1 : Nat) : Int) (took rest bad n).2.1 (took rest bad n).2.2 := by
  refine ⟨fun h => ?_, fun v t hb hf he => ?_⟩
  · obtain ⟨h1, h2, h3⟩ := took_fwd h
    have a := le_numLe (took rest bad n).1
    have b := fits_numLe (took rest bad n).1
    rw [h2] at a b
    exact ⟨h1, b, by show rest = le _ n ++ _; rw [a]; exact h3⟩
  · subst he
    rw [took_bwd v t hb]
    exact ⟨numLe_fits hf, rfl, rfl⟩
theorem par_i64 (rest : List UInt8) (bad : Bool) : Par (fun v : Int => le (IntKind.u64.wrap v) 8) I64 rest bad (wrap64 ((numLe (took rest bad 8).1 : Nat) : Int)) (took rest bad 8).2.1 (took rest bad 8).2.2 := by
  have key : ∀ m : Nat, m < 18446744073709551616 → IntKind.u64.wrap (wrap64 (m : Int)) = m := fun m hm => by rw [IntKind.wrap_u64]; unfold wrap64; omega
  refine ⟨fun h => ?_, fun v t hb hf he => ?_⟩
  · obtain ⟨h1, h2, h3⟩ := took_fwd (n := 8) h
    rw [show ((8 : Nat) : Int) = 8 from rfl] at h2 h3
    have a := le_numLe (took rest bad 8).1
    have c := numLe_lt (took rest bad 8).1
    rw [h2] at a c
    refine ⟨h1, by unfold I64 wrap64; omega, ?_⟩
    show rest = le _ 8 ++ _
    rw [key _ (by have : (256 : Nat) ^ 8 = 18446744073709551616 := by decide
                  omega), a]
    exact h3
  · subst he
    have := took_bwd (n := 8) (IntKind.u64.wrap v) t hb
    rw [show ((8 : Nat) : Int) = 8 from rfl] at this
    rw [this]
    refine ⟨?_, rfl, rfl⟩
    obtain ⟨l0, l1⟩ := u64_lo v
    obtain ⟨m, hm⟩ := Int.eq_ofNat_of_zero_le l0
    simp only
    rw [hm, numLe_le, Nat.mod_eq_of_lt (by have : (2 : Nat) ^ (8 * 8) = 18446744073709551616 := by decide
                                           omega)]
    have e := IntKind.wrap_u64 v
    rw [hm] at e
    unfold I64 at hf
    unfold wrap64
    omega
theorem par_flag (rest : List UInt8) (bad : Bool) : Par (fun v : Bool => le (flagI v) 1) (fun _ => True) rest bad (flagged rest bad).1 (flagged rest bad).2.1 (flagged rest bad).2.2 := by
  have h := par_num rest bad 1
  rw [show ((1 : Nat) : Int) = 1 from rfl] at h
  unfold flagged
  by_cases hq : 1 < numLe (took rest bad 1).1
  · rw [if_pos hq]
    refine ⟨(fun x => by cases x), fun v t hb _ he => ?_⟩
    obtain ⟨a, _, _⟩ := h.bwd (flagI v) t hb (flag_fits v) he
    cases v <;> simp [flagI] at a <;> omega
  · rw [if_neg hq]
    refine ⟨fun x => ?_, fun v t hb _ he => ?_⟩
    · obtain ⟨a, _, c⟩ := h.fwd x
      refine ⟨a, trivial, ?_⟩
      have e : flagI (decide (numLe (took rest bad 1).1 = 1)) = ((numLe (took rest bad 1).1 : Nat) : Int) := by
        by_cases z : numLe (took rest bad 1).1 = 1
        · rw [decide_eq_true z, z]; rfl
        · rw [decide_eq_false z, show numLe (took rest bad 1).1 = 0 by omega]; rfl
      show rest = le (flagI _) 1 ++ _
      rw [e]
      exact c
    · obtain ⟨a, c, d⟩ := h.bwd (flagI v) t hb (flag_fits v) he
      refine ⟨?_, c, d⟩
      cases v with
      | false =>
        have z : numLe (took rest bad 1).1 = 0 := by simp [flagI] at a; omega
        show decide (numLe (took rest bad 1).1 = 1) = false
        rw [z]; rfl
      | true =>
        have z : numLe (took rest bad 1).1 = 1 := by simp [flagI] at a; omega
        show decide (numLe (took rest bad 1).1 = 1) = true
        rw [z]; rfl
theorem par_most (rest : List UInt8) (bad : Bool) (n : Int) : Par (fun v : Int => le v 2) (fun v => fits v 2 = true ∧ v ≤ n) rest bad ((mostOf rest bad n).1 : Nat) (mostOf rest bad n).2.1 (mostOf rest bad n).2.2 := by
  have h := par_num rest bad 2
  rw [show ((2 : Nat) : Int) = 2 from rfl] at h
  unfold mostOf
  by_cases hq : n < (numLe (took rest bad 2).1 : Nat)
  · rw [if_pos hq]
    refine ⟨(fun x => by cases x), fun v t hb ho he => ?_⟩
    obtain ⟨a, _, _⟩ := h.bwd v t hb ho.1 he
    have := ho.2
    omega
  · rw [if_neg hq]
    refine ⟨fun x => ?_, fun v t hb ho he => h.bwd v t hb ho.1 he⟩
    obtain ⟨a, b, c⟩ := h.fwd x
    exact ⟨a, ⟨b, by omega⟩, c⟩
/-- A list of so many. -/
def okList (m : Int) (n : Nat) (xs : List Int) : Prop := xs.length = n ∧ ∀ x ∈ xs, fits (x + m) 1 = true
theorem par_nil (m : Int) (rest : List UInt8) (bad : Bool) : Par (listB m) (okList m 0) rest bad [] rest bad := by
  refine ⟨fun h => ⟨h, ⟨rfl, fun x hx => by simp at hx⟩, rfl⟩, fun v t hb ho he => ?_⟩
  obtain rfl := List.length_eq_zero_iff.1 ho.1
  exact ⟨rfl, he, hb⟩
theorem par_snoc {m : Int} {n : Nat} {r r1 r2 : List UInt8} {b b1 b2 : Bool} {xs : List Int} {y : Int} (h : Par (listB m) (okList m n) r b xs r1 b1) (k : Par (fun v : Int => le v 1) (fun v => fits v 1 = true) r1 b1 y r2 b2) :
    Par (listB m) (okList m (n + 1)) r b (xs ++ [y - m]) r2 b2 := by
  refine ⟨fun hb => ?_, fun v t hb ho he => ?_⟩
  · obtain ⟨q1, q2, q3⟩ := k.fwd hb
    obtain ⟨p1, p2, p3⟩ := h.fwd q1
    have e : y - m + m = y := by omega
    refine ⟨p1, ⟨by rw [List.length_append, p2.1]; rfl, fun x hx => ?_⟩, ?_⟩
    · rcases List.mem_append.1 hx with hx | hx
      · exact p2.2 x hx
      · rw [List.mem_singleton.1 hx, e]; exact q2
    · rw [listB_append, p3, q3]
      simp [listB, e]
  · have hl := ho.1
    have hn : n < v.length := by omega
    have hv : v = v.take n ++ [v[n]] := by
      rw [← List.take_succ_eq_append_getElem hn, List.take_of_length_le (by omega)]
    rw [hv, listB_append, List.append_assoc] at he
    obtain ⟨p1, p2, p3⟩ := h.bwd (v.take n) _ hb ⟨by rw [List.length_take]; omega, fun x hx => ho.2 x (List.mem_of_mem_take hx)⟩ he
    obtain ⟨q1, q2, q3⟩ := k.bwd (v[n] + m) t p3 (ho.2 _ (List.getElem_mem hn)) (by rw [p2]; simp [listB])
    refine ⟨?_, q2, q3⟩
    rw [hv, p1, q1]
    congr 2
    omega
end Go.Proofs.Ytmaoimjfkncnpaa
