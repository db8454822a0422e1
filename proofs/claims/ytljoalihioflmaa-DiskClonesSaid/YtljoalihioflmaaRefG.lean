/-
  The reference's disk (package recoupref01): Act, kind 0 (Append). Conditions: those of each theorem ('RefAt': the pointer leads to a reference disk that holds D).
-/
import Derived.Test.YtljoalihioflmaaRefE
namespace Go.Proofs.Ytljoalihioflmaa
open Go.RowKit
set_option maxRecDepth 100000
set_option linter.unusedVariables false

/-- The first append onto a new, empty slice. -/
theorem step_append_new {P : Program} {W : World} {ops : Array Oper} {o : Oper} {a : Act} {K : Act → World → Prop} {Q : Exit → Act → World → Prop} {E : Prop} (hgd : o.guard = none) (s x : Operand) (t : TypeId)
    (ho : o.op = .call { callee := .builtin .append, args := #[s, x], argTypes := #[t, t] })
    (ht : P.underlying t = some (.slice 5)) (hi : (P.info? 5).map (fun i => (i.zero, i.size, i.bytes)) = some (some (.int .u8 0), 1, 1))
    (hs : a.eval s = .slice (some ⟨W.heap.size, 0, none⟩) 0 0)
    (ad : Option Addr) (ys : List UInt8) (m : Nat) (hm : ys.length = m) (c : Nat) (hx : a.eval x = .slice ad m c) (hy : IsBytes W ad ys) (hnc : ad = none → c = 0) (hb : m ≤ 140737488355328)
    (h : ∀ a' c' w', w'.ownsRow W.heap.size 5 1 (.slice a' m c') m (ys.map bval) → Below W.heap.size W w' → K (a.put o.dst (.slice a' m c')) w') :
    if Region.wanted o (yielded ops a.tmps) = true then Oper.wp P o a ((W.alloc (.cells #[] 5)).drew) K Q else E := by
  refine step_append_bytes hgd s x t ho W.heap.size 5 ht hi (.slice (some ⟨W.heap.size, 0, none⟩) 0 0) 0 [] hs (own_new W) ad ys m hm c hx (bytes_new hy) hnc (by omega) (by simp) ?_
  intro a' c' w' h1 h2 _
  rw [Nat.zero_add] at h1 ⊢
  exact h a' c' w' (by simpa using h1) (below_new h2)
/-- The second append, onto what the first made. -/
theorem step_append_next {P : Program} {W w1 : World} {ops : Array Oper} {o : Oper} {a : Act} {K : Act → World → Prop} {Q : Exit → Act → World → Prop} {E : Prop} (hgd : o.guard = none) (s x : Operand) (t : TypeId)
    (ho : o.op = .call { callee := .builtin .append, args := #[s, x], argTypes := #[t, t] })
    (ht : P.underlying t = some (.slice 5)) (hi : (P.info? 5).map (fun i => (i.zero, i.size, i.bytes)) = some (some (.int .u8 0), 1, 1))
    (a1 : Option Addr) (n c1 : Nat) (xs : List UInt8) (hs : a.eval s = .slice a1 n c1) (hr : w1.ownsRow W.heap.size 5 1 (.slice a1 n c1) n (xs.map bval)) (hW : Below W.heap.size W w1)
    (ad : Option Addr) (ys : List UInt8) (m : Nat) (hm : ys.length = m) (c : Nat) (hx : a.eval x = .slice ad m c) (hy : IsBytes W ad ys) (hnc : ad = none → c = 0) (hb : n + m ≤ 140737488355328)
    (h : ∀ a' c' w', w'.ownsRow W.heap.size 5 1 (.slice a' (n + m) c') (n + m) ((xs ++ ys).map bval) → Below W.heap.size W w' → K (a.put o.dst (.slice a' (n + m) c')) w') :
    if Region.wanted o (yielded ops a.tmps) = true then Oper.wp P o a w1 K Q else E := by
  refine step_append_bytes hgd s x t ho W.heap.size 5 ht hi (.slice a1 n c1) n xs hs hr ad ys m hm c hx (hy.upd (below_upd (fun _ => False) hW) (fun _ _ _ x => x)) hnc hb hW.size ?_
  intro a' c' w' h1 h2 _
  exact h a' c' w' h1 (hW.grown h2 hW.size (fun k hk => (hr.lt k hk).1))

set_option maxHeartbeats 8000000 in
theorem ract_append_full {w : World} {p : Nat} {S : Nat → Prop} {V : Nat → Value} {D : DM} (h : RefAt w p S V D) (B : Int) (i : Nat) (ad : Option Addr) (ys : List UInt8) (cy : Nat) (hl : D.lost = false) (hi : i < 8)
    (hyc : ys.length ≤ cy) (hycm : cy ≤ maxLen) (hyb : IsBytes w ad ys) (hyn : ad = none → cy = 0) (hys : ys ≠ [] → ∀ x, ad = some x → ¬ S x.block) (hroom : D.cap < D.used 8 + ys.length) :
    Calls Try.prog 17 #[.pointer (some ⟨p, 0, none⟩), .int .i64 0, .int .i64 (i : Int), .int .i64 B, .slice ad ys.length cy] w (AfterR w p S (5, D)) := by
  have h26 := h.c26
  rw [hl] at h26
  have h7 : ¬ (7 : Int) < i := by omega
  have h8 : (i : Int) < 8 := by omega
  have h25 := h.c25
  have f25 := h.frozen 25
  have f26 := h.frozen 26
  have hcap := h.ok.cap
  have hlen := D.set_len i hi
  unfold maxLen at hycm
  have hgt : (D.cap : Int) - D.used 8 < ys.length := by omega
  clear hl
  go_enter Try.func17, Try.ntmps17
  go_wp2_with fail
  refine (rroom_in h).mono ?_
  rintro e w1 ⟨rfl, rfl⟩
  go_wp2
  go_ret
  exact ⟨rfl, S, V, h, Upd.refl _ _, fun k hk => .inl hk⟩
end Go.Proofs.Ytljoalihioflmaa
