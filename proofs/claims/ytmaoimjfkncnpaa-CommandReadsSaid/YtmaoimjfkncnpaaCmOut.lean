/-
  A command's bytes, and what it takes to be formed; package command's put. Conditions: those of each theorem.
-/
import Derived.Test.YtmaoimjfkncnpaaCm
import Derived.Test.YtmaoimjfkncnpaaOutX
namespace Go.Proofs.Ytmaoimjfkncnpaa
open Go.RowKit
set_option maxRecDepth 100000

/-- What a Request puts behind its kind. -/
def reqBytes (r : Com) (us : List Int) : List UInt8 := le r.ord 1 ++ le (us.length : Int) 1 ++ listB 0 us ++ le r.rea 1 ++ le r.want 2 ++ le (flagI r.cred) 1
/-- What is put of a command. -/
def comBytes (r : Com) (us : List Int) : List UInt8 :=
  le r.kind 1 ++
    (if r.kind = 1 then reqBytes r us
     else if r.kind = 6 then le r.rma 2 ++ le r.unit 1 ++ le r.grd 1
     else if r.kind = 7 then le r.days 2
     else if r.kind = 8 then le r.key 4 ++ le (flagI r.yes) 1
     else le r.rma 2)
/-- What a Request needs goes in. -/
structure FitQ (r : Com) (us : List Int) : Prop where
  ord : fits r.ord 1 = true
  len : fits (us.length : Int) 1 = true
  us : ∀ x ∈ us, fits (x + 0) 1 = true
  rea : fits r.rea 1 = true
  want : fits r.want 2 = true
/-- All that a command's kind needs goes in. -/
structure FitC (r : Com) (us : List Int) : Prop where
  req : r.kind = 1 → FitQ r us
  rma : 2 ≤ r.kind → r.kind ≤ 6 → fits r.rma 2 = true
  grd : r.kind = 6 → fits r.unit 1 = true ∧ fits r.grd 1 = true
  day : r.kind = 7 → fits r.days 2 = true
  key : r.kind = 8 → fits r.key 4 = true
/-- What its kind doesn't need is zero. -/
structure RestZ (r : Com) (us : List Int) : Prop where
  req : r.kind ≠ 1 → r.ord = 0 ∧ us = [] ∧ r.rea = 0 ∧ r.want = 0 ∧ r.cred = false
  rma : (r.kind = 1 ∨ r.kind = 7 ∨ r.kind = 8) → r.rma = 0
  grd : r.kind ≠ 6 → r.unit = 0 ∧ r.grd = 0
  day : r.kind ≠ 7 → r.days = 0
  key : r.kind ≠ 8 → r.key = 0 ∧ r.yes = false
/-- Of some kind, with all that it needs and nothing else. -/
structure Loose (r : Com) (us : List Int) : Prop where
  kind : 1 ≤ r.kind ∧ r.kind ≤ 8
  fit : FitC r us
  rest : RestZ r us
/-- Formed. -/
def FormedC (r : Com) (us : List Int) : Prop := Loose r us ∧ (r.kind = 1 → 1 ≤ us.length ∧ us.length ≤ 60)
theorem reqBytes_length (r : Com) (us : List Int) : (reqBytes r us).length = 6 + us.length := by
  unfold reqBytes
  simp only [List.length_append, le_length, listB_length]
  omega
theorem comBytes_length (r : Com) (us : List Int) : (comBytes r us).length ≤ 7 + us.length := by
  unfold comBytes
  rw [List.length_append, le_length]
  repeat' split
  all_goals simp only [List.length_append, le_length, reqBytes_length]
  all_goals omega
theorem OutRun.go {w : World} {p : Nat} {S : Nat → Prop} {ys : List UInt8} {bad : Bool} {Q : Prop} (h : OutAt w p S ys bad) : OutRun w p S ys (bad = false ∧ Q) [] 0 w :=
  ⟨S, ys, bad, h, Upd.refl _ _, fun _ hk => .inl hk, Nat.le_refl _, fun q => ⟨q.1, by rw [List.append_nil]⟩⟩
theorem OutRun.join {w W : World} {p n : Nat} {S : Nat → Prop} {ys bs : List UInt8} {Q : Prop} (h : OutRun w p S ys Q bs n W) :
    ∃ S' zs bad, OutAt W p S' zs bad ∧ zs.length ≤ ys.length + n ∧ (∀ k, S' k → S k ∨ w.heap.size ≤ k) ∧ ∀ (Q2 : Prop) W1 cs m W2, (Q → Q2) → Below W.heap.size W W1 → OutRun W1 p S' zs (bad = false ∧ Q2) cs m W2 → OutRun w p S ys Q (bs ++ cs) (n + m) W2 := by
  obtain ⟨S', zs, bad, h1, h2, h3, h4, h5⟩ := h
  refine ⟨S', zs, bad, h1, h4, h3, fun Q2 W1 cs m W2 hq hb ho => ?_⟩
  obtain ⟨S3, zs3, bad3, o1, o2, o3, o4, o5⟩ := ho
  have u1 : Upd S' W W2 := (Upd.below hb).trans o2 (fun _ _ x => x)
  refine ⟨S3, zs3, bad3, o1, h2.trans u1 (fun k hk hs => (h3 k hs).elim (fun x => x) (fun x => by omega)), fun k hk => ?_, by omega, fun q => ?_⟩
  · rcases o3 k hk with x | x
    · exact h3 k x
    · exact .inr (Nat.le_trans (Nat.le_trans h2.size hb.size) x)
  · obtain ⟨q1, q2⟩ := h5 q
    obtain ⟨q3, q4⟩ := o5 ⟨q1, hq q⟩
    exact ⟨q3, by rw [q4, q2, List.append_assoc]⟩
end Go.Proofs.Ytmaoimjfkncnpaa
