/-
  CodecMost: a number that is more than may be makes an In bad, and is 0. No conditions: every input.
-/
import Derived.Test.YtljoalihioflmaaCodecAwake
namespace Go.Proofs.Ytljoalihioflmaa
open Go.RowKit Go.WideShapes
set_option maxRecDepth 100000

theorem cells_u8' : Try.prog.cellsOf 5 = 1 := by kernel_rfl

theorem IsBytes.below {w w' : World} {a : Option Addr} {xs : List UInt8} (h : IsBytes w a xs) (hb : Below w.heap.size w w') : IsBytes w' a xs :=
  h.upd (below_upd (fun _ => False) hb) (fun _ _ _ h => h)
theorem IsBytes.take' {w : World} {a : Option Addr} {xs : List UInt8} (h : IsBytes w a xs) (n : Nat) : IsBytes w a (xs.take n) := by
  rcases h with rfl | ⟨b, off, rfl, hb, hc⟩
  · exact .inl (by simp)
  · refine .inr ⟨b, off, rfl, hb, fun i hi => ?_⟩
    rw [List.getElem_take]
    exact hc i (by simp at hi; omega)

theorem take2_lt (xs : List UInt8) : numLe (xs.take 2) < 65536 := by
  have h1 := numLe_lt (xs.take 2)
  have h2 : 256 ^ (xs.take 2).length ≤ 256 ^ 2 := Nat.pow_le_pow_right (by decide) (by simp; omega)
  have h3 : (256 : Nat) ^ 2 = 65536 := by decide
  omega
theorem took2_short {xs : List UInt8} (h : xs.length < 2) : took xs false 2 = ([], [], true) := by
  unfold took canTake
  have : ¬ (2 : Int) ≤ xs.length := by omega
  simp [this]
theorem took2_long {xs : List UInt8} (h : 2 ≤ xs.length) : took xs false 2 = (xs.take 2, xs.drop 2, false) := by
  unfold took canTake
  have : (2 : Int) ≤ xs.length := by omega
  simp [this]

theorem in_below {w w1 w2 : World} {B p : Nat} {S : Nat → Prop} {r1 r2 : List UInt8} {b1 b2 : Bool} (h : InAt w1 p S r1 b1) (hb : Below B w w1) (hB : B ≤ w.heap.size) (hs : ∀ k, S k → B ≤ k) (d : InDone w1 p S r2 b2 w2) : Below B w w2 :=
  hb.trans (upd_below d.2 (Nat.le_trans hB hb.size) (fun k hk => by
    have h9 : k = p := hk
    subst h9
    exact hs _ h.own))

set_option maxHeartbeats 800000 in
theorem most_far (a : Option Addr) (m c : Nat) (n : Int) (w : World) (h : 100 < m) :
    Calls Try.prog 10 #[.slice a m c, .int .i64 n] w fun e w' => e = .returned (.bool true) ∧ Below w.heap.size w w' := by
  have h1 : (100 : Int) < m := by omega
  go_enter Try.func10, Try.ntmps10
  go_wp2_with fail
  refine (codec_awake _).mono ?_
  rintro e w1 ⟨rfl, b1⟩
  go_wp2_with fail
  refine (codec_awake _).mono ?_
  rintro e w2 ⟨rfl, b2⟩
  go_wp2
  go_ret
  exact ⟨rfl, b1.trans (b2.mono b1.size)⟩

set_option maxHeartbeats 1600000 in
theorem most_near (a : Option Addr) (xs : List UInt8) (c : Nat) (n : Int) (w : World) (h : ¬ 100 < xs.length) (hx : IsBytes w a xs) (hc : xs.length ≤ c) (hnc : a = none → c = 0) :
    Calls Try.prog 10 #[.slice a xs.length c, .int .i64 n] w fun e w' => e = .returned (.bool true) ∧ Below w.heap.size w w' := by
  have h1 : ¬ (100 : Int) < xs.length := by omega
  have h1c : (xs.length : Int) ≤ c := by omega
  go_enter Try.func10, Try.ntmps10
  go_wp2_with fail
  refine (codec_awake _).mono ?_
  rintro e w1 ⟨rfl, b1⟩
  have hx1 := hx.below b1
  go_wp2_with fail
  refine (in_new a xs xs.length c w1 rfl hx1 hnc (by omega)).mono ?_
  rintro e w2 ⟨p, S, rfl, hi, b2, hS⟩
  have B2 : Below w.heap.size w w2 := b1.trans (b2.mono b1.size)
  have hS' : ∀ k, S k → w.heap.size ≤ k := fun k hk => Nat.le_trans b1.size (hS k hk)
  go_wp2_with fail
  refine (in_most hi n).mono ?_
  rintro e w3 ⟨rfl, d3⟩
  have B3 := in_below hi B2 (Nat.le_refl _) hS' d3
  by_cases hl : xs.length < 2
  · have hl1 : (xs.length : Int) < 2 := by omega
    have e : mostOf xs false n = (0, [], true) := by
      unfold mostOf
      rw [took2_short hl]
      split <;> rfl
    rw [e] at d3 ⊢
    clear e
    go_wp2_with fail
    refine (in_bad d3.1).mono ?_
    rintro e w4 ⟨rfl, rfl⟩
    go_wp2_with fail
    refine (in_u8 d3.1).mono ?_
    rintro e w5 ⟨rfl, d5⟩
    have B5 := in_below d3.1 B3 (Nat.le_refl _) hS' d5
    have e : numLe (took [] true 1).1 = 0 := rfl
    rw [e]
    clear e
    go_wp2
    go_ret
    exact ⟨rfl, B5⟩
  · have hl1 : ¬ (xs.length : Int) < 2 := by omega
    have hl2 : (2 : Int) ≤ xs.length := by omega
    have hl3 : (2 : Int) ≤ c := by omega
    have hl4 : 2 ≤ c := by omega
    have hl5 : 2 ≤ xs.length := by omega
    have htl : Hid ((xs.take 2).length = 2) := by
      show (xs.take 2).length = 2
      simp; omega
    have ht := took2_long (xs := xs) (by omega)
    have hlt := take2_lt xs
    have hx3 := (hx.below B3).take' 2
    have hur : u64r (numLe (xs.take 2)) = numLe (xs.take 2) := u64r_small (by omega)
    have HUR := Lib.hid hur
    clear hur
    by_cases hq : n < (numLe (xs.take 2) : Nat)
    · have e : mostOf xs false n = (0, [], true) := by
        unfold mostOf
        rw [ht]
        simp only [hq, if_true]
      rw [e] at d3 ⊢
      clear e ht
      have HQ := Lib.hid hq
      clear hq
      go_wp2_with fail
      refine (number_ref a (xs.take 2) 2 c w3 htl.out hx3 (by decide)).mono ?_
      rintro e w4 ⟨rfl, rfl⟩
      rw [HUR.out]
      have hq2 := HQ.out
      go_wp2_with fail
      refine (in_bad d3.1).mono ?_
      rintro e w4 ⟨rfl, rfl⟩
      go_wp2_with fail
      refine (in_u8 d3.1).mono ?_
      rintro e w5 ⟨rfl, d5⟩
      have B5 := in_below d3.1 B3 (Nat.le_refl _) hS' d5
      have e : numLe (took [] true 1).1 = 0 := rfl
      rw [e]
      clear e
      go_wp2
      go_ret
      exact ⟨rfl, B5⟩
    · have e : mostOf xs false n = (numLe (xs.take 2), xs.drop 2, false) := by
        unfold mostOf
        rw [ht]
        simp only [hq, if_false]
      rw [e] at d3 ⊢
      clear e ht
      have HQ := Lib.hid hq
      clear hq
      go_wp2_with fail
      refine (number_ref a (xs.take 2) 2 c w3 htl.out hx3 (by decide)).mono ?_
      rintro e w4 ⟨rfl, rfl⟩
      rw [HUR.out]
      have hq2 := HQ.out
      go_wp2_with fail
      refine (number_ref a (xs.take 2) 2 c w3 htl.out hx3 (by decide)).mono ?_
      rintro e w4 ⟨rfl, rfl⟩
      rw [HUR.out]
      go_wp2_with fail
      refine (in_bad d3.1).mono ?_
      rintro e w4 ⟨rfl, rfl⟩
      go_wp2_with fail
      refine (in_left d3.1).mono ?_
      rintro e w4 ⟨rfl, rfl⟩
      have hdl : (((xs.drop 2).length : Nat) : Int) = (xs.length : Int) - 2 := by simp; omega
      rw [hdl]
      clear hdl
      go_wp2
      go_ret
      exact ⟨by simp, B3⟩

theorem most_contract (W : World) (args : Array Value) (h : Each Try.prog W Try.f10.params.toList args.toList) :
    Calls Try.prog 10 args W fun e W' => e = .returned (.bool true) ∧ Below W.heap.size W W' := by
  rw [Try.params10] at h
  obtain ⟨v0, r0, e0, ⟨_, o0⟩, d0, h⟩ := h.cons
  obtain ⟨v1, r1, rfl, ⟨_, o1⟩, d1, h⟩ := h.cons
  obtain rfl := h.nil
  obtain ⟨args⟩ := args
  obtain rfl : args = [v0, v1] := e0
  obtain ⟨a, n, c, rfl, hc0⟩ := val_slice o0 Try.underlying31
  obtain ⟨k, rfl, hk⟩ := val_int o1 d1 Try.underlying3
  rw [hc0] at d0
  obtain ⟨a', c', xs, e, h1, h2, h3, h4⟩ := d0.bytes Try.underlying31 Try.underlying5 cells_u8'
  injection e with e _
  injection e with e1 e2 e3
  subst e1 e2 e3
  by_cases hbig : 100 < xs.length
  · exact most_far _ _ _ _ W hbig
  · exact most_near _ _ _ _ W hbig h3 h1 h4

theorem codec_own : ownKnob Try.prog.godebug = none := by kernel_rfl
theorem codec_laidOut : laidOutB Try.prog = true := by kernel_rfl

theorem most_lifted (os : Os) (started : os.Started) (H : Type) (enc : TypeId × Value → H) :
    ReturnsInHanded {} Try.checked os 10 .any (Rows.codecMostSpec.pre6 enc Try.prog Try.f10 Rows.codecMostRow.domain false) (Rows.codecMostSpec.post enc Try.prog Try.f10 false true false false) :=
  law_lifted (C := Try.checked) codec_own codec_laidOut (by kernel_rfl) Try.func10 rfl (tb := 4) rfl Try.underlying4
    (by
      rw [Try.params10]; intro t ht; simp at ht
      rcases ht with rfl | rfl <;> exact ⟨by kernel_rfl, of_decide_eq_true (by kernel_rfl)⟩)
    (fun H ds hl => by
      rw [Try.params10] at hl
      match ds, hl with
      | [d1, d2], _ => rfl)
    os started H enc
    (ChangeSpec.witness6 (enc := enc) (C := Try.checked) false ⟨#[], #[.slice none 0 0, .int .i64 0], []⟩ 8 (by kernel_rfl) (by kernel_rfl) (by kernel_rfl) (by kernel_rfl))
    most_contract

theorem codecMost_holds : Rows.CodecMostSaid :=
  OpenClaim.holds_of_wide 10 Try.f10 rfl rfl rfl rfl rfl rfl rfl ⟨rfl, rfl, rfl, rfl, rfl⟩ rfl rfl rfl rfl rfl (by kernel_rfl) Try.func10 (by kernel_rfl)
    (of_decide_eq_true (by kernel_rfl)) (by unfold Func.isWrapper; first | (rw [if_pos (by decide +kernel)]; kernel_rfl) | (rw [if_neg (by decide +kernel)]; exact ⟨rfl, rfl⟩))
    (fun os started H enc _ => most_lifted os started H enc)
#print axioms codecMost_holds
end Go.Proofs.Ytljoalihioflmaa
