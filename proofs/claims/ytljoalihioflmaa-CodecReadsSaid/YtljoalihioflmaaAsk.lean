/-
  Asking an In: what the statement reckons, against what the In answers; recouplaw02.read, left. Conditions: those of each theorem.
-/
import Derived.Test.YtljoalihioflmaaCodecBack
namespace Go.Proofs.Ytljoalihioflmaa
open Go.RowKit
set_option maxRecDepth 100000

/-- How many bytes are asked for at first. -/
def asz (x : Item) : Int := if x.kind = 0 then 1 else if x.kind = 1 then 2 else if x.kind = 2 then 4 else if x.kind = 3 then 8 else if x.kind = 4 then 1 else if x.kind = 5 then 2 else x.V

/-- What the In answers, and what it has left. -/
structure Next (x : Item) (ri : List UInt8) (bad : Bool) (n : Nat) (data ri' : List UInt8) (bad' : Bool) : Prop where
  small : n < 2 ^ 64
  k0 : x.kind = 0 → numLe (took ri bad 1).1 = n ∧ (took ri bad 1).2 = (ri', bad')
  k1 : x.kind = 1 → numLe (took ri bad 2).1 = n ∧ (took ri bad 2).2 = (ri', bad')
  k2 : x.kind = 2 → numLe (took ri bad 4).1 = n ∧ (took ri bad 4).2 = (ri', bad')
  k3 : x.kind = 3 → numLe (took ri bad 8).1 = n ∧ (took ri bad 8).2 = (ri', bad')
  k4 : x.kind = 4 → flagged ri bad = (decide (n = 1), ri', bad')
  k5 : x.kind = 5 → bytesOf ri bad = (data, ri', bad')
  k6 : 5 < x.kind → took ri bad x.V = (data, ri', bad')

theorem took_bad {n : Int} {bad : Bool} (h : bad = true) : took [] bad n = ([], [], true) := by
  unfold took canTake
  subst h
  split
  · simp
  · rfl
theorem took_no {ri : List UInt8} {bad : Bool} {n : Int} (h : n < 0 ∨ (ri.length : Int) < n) : took ri bad n = ([], [], true) := by
  unfold took canTake
  have : ¬ (0 ≤ n ∧ n ≤ ri.length) := by omega
  simp only [Bool.and_eq_true, decide_eq_true_eq, this, if_false]
theorem took_ok {ri : List UInt8} {n : Nat} (h : n ≤ ri.length) : took ri false n = (ri.take n, ri.drop n, false) := by
  unfold took canTake
  have : (0 : Int) ≤ n ∧ (n : Int) ≤ ri.length := by omega
  simp only [Bool.and_eq_true, decide_eq_true_eq, this, and_self, if_true, Int.toNat_natCast]
theorem numLe_take_lt (ri : List UInt8) {n : Nat} (h : n ≤ 8) : numLe (ri.take n) < 2 ^ 64 := by
  have h1 := numLe_lt (ri.take n)
  have h2 : 256 ^ (ri.take n).length ≤ 256 ^ 8 := Nat.pow_le_pow_right (by decide) (by simp; omega)
  have h3 : (256 : Nat) ^ 8 = 2 ^ 64 := by decide
  omega

/-- It goes bad at once. -/
theorem next_bad (x : Item) (ri : List UInt8) (bad : Bool) (h : bad = true ∧ ri = [] ∨ asz x < 0 ∨ (ri.length : Int) < asz x) : Next x ri bad 0 [] [] true := by
  have key : took ri bad (asz x) = ([], [], true) := by
    rcases h with ⟨h, rfl⟩ | h
    · exact took_bad h
    · exact took_no h
  refine ⟨by decide, fun e => ?_, fun e => ?_, fun e => ?_, fun e => ?_, fun e => ?_, fun e => ?_, fun e => ?_⟩
  · have e1 : asz x = 1 := by simp [asz, e]
    rw [e1] at key; rw [key]; exact ⟨rfl, rfl⟩
  · have e1 : asz x = 2 := by simp [asz, e]
    rw [e1] at key; rw [key]; exact ⟨rfl, rfl⟩
  · have e1 : asz x = 4 := by simp [asz, e]
    rw [e1] at key; rw [key]; exact ⟨rfl, rfl⟩
  · have e1 : asz x = 8 := by simp [asz, e]
    rw [e1] at key; rw [key]; exact ⟨rfl, rfl⟩
  · have e1 : asz x = 1 := by simp [asz, e]
    rw [e1] at key; unfold flagged; rw [key]; rfl
  · have e1 : asz x = 2 := by simp [asz, e]
    rw [e1] at key; unfold bytesOf; rw [key]; exact took_bad rfl
  · have e1 : asz x = x.V := by
      have : x.kind ≠ 0 := by omega
      have : x.kind ≠ 1 := by omega
      have : x.kind ≠ 2 := by omega
      have : x.kind ≠ 3 := by omega
      have : x.kind ≠ 4 := by omega
      have : x.kind ≠ 5 := by omega
      simp [asz, *]
    rw [e1] at key; exact key
/-- It goes well, and no more is asked. -/
theorem next_ok (x : Item) (hk0 : 0 ≤ x.kind) (ri : List UInt8) (s : Nat) (hs : asz x = s) (hl : s ≤ ri.length) (h5 : x.kind ≠ 5) (n : Nat) (hn : x.kind < 6 → n = numLe (ri.take s)) (h6 : 5 < x.kind → n = 0) (h4 : x.kind = 4 → n ≤ 1) :
    Next x ri false n (ri.take s) (ri.drop s) false := by
  have key : took ri false (asz x) = (ri.take s, ri.drop s, false) := by rw [hs]; exact took_ok hl
  have hsm : n < 2 ^ 64 := by
    by_cases h : x.kind < 6
    · rw [hn h]
      have hs8 : s ≤ 8 := by
        have : asz x ≤ 8 := by
          unfold asz
          split
          · omega
          split
          · omega
          split
          · omega
          split
          · omega
          split
          · omega
          omega
        omega
      exact numLe_take_lt ri hs8
    · rw [h6 (by omega)]; decide
  refine ⟨hsm, fun e => ?_, fun e => ?_, fun e => ?_, fun e => ?_, fun e => ?_, fun e => ?_, fun e => ?_⟩
  · have e1 : asz x = 1 := by simp [asz, e]
    rw [e1] at key; rw [key]; exact ⟨(hn (by omega)).symm, rfl⟩
  · have e1 : asz x = 2 := by simp [asz, e]
    rw [e1] at key; rw [key]; exact ⟨(hn (by omega)).symm, rfl⟩
  · have e1 : asz x = 4 := by simp [asz, e]
    rw [e1] at key; rw [key]; exact ⟨(hn (by omega)).symm, rfl⟩
  · have e1 : asz x = 8 := by simp [asz, e]
    rw [e1] at key; rw [key]; exact ⟨(hn (by omega)).symm, rfl⟩
  · have e1 : asz x = 1 := by simp [asz, e]
    rw [e1] at key; unfold flagged; rw [key]
    simp only
    rw [← hn (by omega), if_neg (by have := h4 e; omega)]
  · exact (h5 e).elim
  · have e1 : asz x = x.V := by
      have : x.kind ≠ 0 := by omega
      have : x.kind ≠ 1 := by omega
      have : x.kind ≠ 2 := by omega
      have : x.kind ≠ 3 := by omega
      have : x.kind ≠ 4 := by omega
      have : x.kind ≠ 5 := by omega
      simp [asz, *]
    rw [e1] at key; exact key
/-- A flag that is neither 0 nor 1. -/
theorem next_flag (x : Item) (ri : List UInt8) (n : Nat) (data : List UInt8) (hk : x.kind = 4) (hl : 1 ≤ ri.length) (hn : n = numLe (ri.take 1)) (h : 1 < n) : Next x ri false n data [] true := by
  have key : took ri false 1 = (ri.take 1, ri.drop 1, false) := took_ok hl
  refine ⟨by rw [hn]; exact numLe_take_lt ri (by decide), fun e => by omega, fun e => by omega, fun e => by omega, fun e => by omega, fun _ => ?_, fun e => by omega, fun e => by omega⟩
  unfold flagged
  rw [key]
  simp only
  rw [← hn, if_pos h]
  have : ¬ n = 1 := by omega
  simp [this]
/-- Bytes, which are all there, or not. -/
theorem next_bytes (x : Item) (ri : List UInt8) (n : Nat) (hk : x.kind = 5) (hl : 2 ≤ ri.length) (hn : n = numLe (ri.take 2)) (h : n ≤ (ri.drop 2).length) : Next x ri false n ((ri.drop 2).take n) ((ri.drop 2).drop n) false := by
  have key : took ri false 2 = (ri.take 2, ri.drop 2, false) := took_ok hl
  refine ⟨by rw [hn]; exact numLe_take_lt ri (by decide), fun e => by omega, fun e => by omega, fun e => by omega, fun e => by omega, fun e => by omega, fun _ => ?_, fun e => by omega⟩
  unfold bytesOf
  rw [key]
  simp only
  rw [← hn]
  exact took_ok h
theorem next_short (x : Item) (ri : List UInt8) (n : Nat) (hk : x.kind = 5) (hl : 2 ≤ ri.length) (hn : n = numLe (ri.take 2)) (h : (ri.drop 2).length < n) : Next x ri false n [] [] true := by
  have key : took ri false 2 = (ri.take 2, ri.drop 2, false) := took_ok hl
  refine ⟨by rw [hn]; exact numLe_take_lt ri (by decide), fun e => by omega, fun e => by omega, fun e => by omega, fun e => by omega, fun e => by omega, fun _ => ?_, fun e => by omega⟩
  unfold bytesOf
  rw [key]
  simp only
  rw [← hn]
  exact took_no (.inr (by omega))

theorem wrap_small {n : Nat} {ri : List UInt8} {bad : Bool} {s : Int} (hs : s ≤ 7) (h : numLe (took ri bad s).1 = n) : wrap64 (n : Int) = n := by
  rw [← h]; exact num_i64 ri bad s hs

theorem bytes_alike (a b : Option Addr) (n m ca cb : Nat) (xs : List UInt8) (w2 : World) (hn : xs.length = n) (hm : xs.length = m) (ha : IsBytes w2 a xs) (hb : IsBytes w2 b xs) (hx : n ≤ maxLen) (hy : m ≤ maxLen) :
    Calls Try.prog 26 #[.slice a n ca, .slice b m cb] w2 fun e w3 => e = .returned (.bool true) ∧ Below w2.heap.size w2 w3 :=
  (bytes_any a b n m ca cb xs xs w2 hn hm ha hb hx hy).mono fun _ _ ⟨h1, b3⟩ => ⟨by rw [h1]; simp, b3⟩

set_option maxHeartbeats 1600000 in
theorem read_in {w : World} {p : Nat} {S : Nat → Prop} {ri : List UInt8} {bad : Bool} (h : InAt w p S ri bad) (k V L : Int) (F : Bool) (a : Option Addr) (B : List UInt8) (c : Nat) (hk : 0 ≤ k) (n : Nat) (data ri' : List UInt8) (bad' : Bool)
    (hN : Next ⟨k, V, L, F, B⟩ ri bad n data ri' bad') (ad : Option Addr) (m cd : Nat) (hm : data.length = m) (hmm : m ≤ maxLen) (hd : IsBytes w ad data) (hdp : data ≠ [] → ∀ x, ad = some x → x.block ≠ p) (hl : ri.length ≤ 140737488355328) (v5 : Value) :
    Calls Try.prog 48 #[.pointer (some ⟨p, 0, none⟩), .agg #[.int .u8 k, .int .i64 V, .int .i64 L, .bool F, .slice a B.length c], .int .u64 (n : Int), .slice ad m cd, v5] w fun e w' => e = .returned (.bool true) ∧ InAt w' p S ri' bad' ∧ Upd (fun k => k = p) w w' := by
  have A0 : Below w.heap.size w (w.alloc (.cells #[.int .u8 k, .int .i64 V, .int .i64 L, .bool F, .slice a B.length c] 60)) := upd_box _
  have hA := h.below A0
  have HM := Lib.hid hm
  have HN := Lib.hid hN
  have hdA : IsBytes (w.alloc (.cells #[.int .u8 k, .int .i64 V, .int .i64 L, .bool F, .slice a B.length c] 60)) ad data := hd.upd (below_upd (fun _ => False) A0) (fun _ _ _ h => h)
  clear hN hm hd
  have fin : ∀ {w2 : World} {r : List UInt8} {b : Bool}, InDone (w.alloc (.cells #[.int .u8 k, .int .i64 V, .int .i64 L, .bool F, .slice a B.length c] 60)) p S r b w2 → InAt w2 p S r b ∧ Upd (fun k => k = p) w w2 :=
    fun d => ⟨d.1, (below_upd (fun k => k = p) A0).trans d.2 (fun _ _ x => x)⟩
  by_cases k0 : k = 0
  · subst k0
    obtain ⟨g1, g2⟩ := HN.out.k0 rfl
    have G1 := Lib.hid g1
    have G2 := Lib.hid g2
    have hb : ((n : Int) == wrap64 (n : Int)) = true := by rw [wrap_small (by decide) g1]; simp
    clear g1 g2
    go_enter Try.func48, Try.ntmps48
    go_wp2_with fail
    refine (in_u8 hA).mono ?_
    rintro e w2 ⟨rfl, d⟩
    rw [G1.out]
    have key := fin d
    rw [G2.out] at key
    clear d
    go_wp2
    go_ret
    exact ⟨rfl, key⟩
  by_cases k1 : k = 1
  · subst k1
    obtain ⟨g1, g2⟩ := HN.out.k1 rfl
    have G1 := Lib.hid g1
    have G2 := Lib.hid g2
    have hb : ((n : Int) == wrap64 (n : Int)) = true := by rw [wrap_small (by decide) g1]; simp
    clear g1 g2
    go_enter Try.func48, Try.ntmps48
    go_wp2_with fail
    refine (in_u16 hA).mono ?_
    rintro e w2 ⟨rfl, d⟩
    rw [G1.out]
    have key := fin d
    rw [G2.out] at key
    clear d
    go_wp2
    go_ret
    exact ⟨rfl, key⟩
  by_cases k2 : k = 2
  · subst k2
    obtain ⟨g1, g2⟩ := HN.out.k2 rfl
    have G1 := Lib.hid g1
    have G2 := Lib.hid g2
    have hb : ((n : Int) == wrap64 (n : Int)) = true := by rw [wrap_small (by decide) g1]; simp
    clear g1 g2
    go_enter Try.func48, Try.ntmps48
    go_wp2_with fail
    refine (in_u32 hA).mono ?_
    rintro e w2 ⟨rfl, d⟩
    rw [G1.out]
    have key := fin d
    rw [G2.out] at key
    clear d
    go_wp2
    go_ret
    exact ⟨rfl, key⟩
  by_cases k3 : k = 3
  · subst k3
    obtain ⟨g1, g2⟩ := HN.out.k3 rfl
    have G1 := Lib.hid g1
    have G2 := Lib.hid g2
    clear g1 g2
    go_enter Try.func48, Try.ntmps48
    go_wp2_with fail
    refine (in_i64 hA).mono ?_
    rintro e w2 ⟨rfl, d⟩
    rw [G1.out]
    have key := fin d
    rw [G2.out] at key
    clear d
    go_wp2
    go_ret
    exact ⟨by simp, key⟩
  by_cases k4 : k = 4
  · subst k4
    have g1 := HN.out.k4 rfl
    have G1 := Lib.hid g1
    clear g1
    have hb : ((n : Int) == 1) = decide (n = 1) := by rw [Bool.eq_iff_iff]; simp; omega
    go_enter Try.func48, Try.ntmps48
    go_wp2_with fail
    refine (in_flag hA).mono ?_
    rintro e w2 ⟨rfl, d⟩
    rw [G1.out] at d ⊢
    have key := fin d
    clear d
    go_wp2
    go_ret
    exact ⟨by simp, key⟩
  by_cases k5 : k = 5
  · subst k5
    have G1 := Lib.hid (HN.out.k5 rfl)
    have HD := Lib.hid hdp
    clear hdp
    go_enter Try.func48, Try.ntmps48
    go_wp2_with fail
    refine (in_bytes hA hl).mono ?_
    rintro e w2 ⟨⟨a2, m2, c2, rfl, hm2, hb2, hc2, hc3, _, _⟩, d⟩
    rw [G1.out] at d hm2 hb2
    have hd2 : IsBytes w2 ad data := hdA.upd d.2 (fun h0 x hx => HD.out h0 x hx)
    have key := fin d
    have HM2 := Lib.hid hm2
    clear d hm2
    go_wp2_with fail
    refine (bytes_alike a2 ad m2 m c2 cd data w2 HM2.out HM.out hb2 hd2 (Nat.le_trans hc2 hc3) hmm).mono ?_
    rintro e w3 ⟨rfl, b3⟩
    have k1' := key.1.below b3
    have k2' := key.2.trans (below_upd (fun _ => False) b3) (fun _ _ h => h.elim)
    go_wp2
    go_ret
    exact ⟨rfl, k1', k2'⟩
  have G1 := Lib.hid (HN.out.k6 (by show 5 < k; omega))
  have HD := Lib.hid hdp
  have b0 : (k == 0) = false := by simpa using k0
  have b1' : (k == 1) = false := by simpa using k1
  have b2' : (k == 2) = false := by simpa using k2
  have b3' : (k == 3) = false := by simpa using k3
  have b4' : (k == 4) = false := by simpa using k4
  have b5' : (k == 5) = false := by simpa using k5
  clear hdp k0 k1 k2 k3 k4 k5
  go_enter Try.func48, Try.ntmps48
  go_wp2_with fail
  refine (in_plain hA V hl).mono ?_
  rintro e w2 ⟨⟨a2, m2, c2, rfl, hm2, hb2, hc2, hc3, _, _⟩, d⟩
  rw [show took ri bad V = _ from G1.out] at d hm2 hb2
  have hd2 : IsBytes w2 ad data := hdA.upd d.2 (fun h0 x hx => HD.out h0 x hx)
  have key := fin d
  have HM2 := Lib.hid hm2
  clear d hm2
  go_wp2_with fail
  refine (bytes_alike a2 ad m2 m c2 cd data w2 HM2.out HM.out hb2 hd2 (Nat.le_trans hc2 hc3) hmm).mono ?_
  rintro e w3 ⟨rfl, b3⟩
  have k1' := key.1.below b3
  have k2' := key.2.trans (below_upd (fun _ => False) b3) (fun _ _ h => h.elim)
  go_wp2
  go_ret
  exact ⟨rfl, k1', k2'⟩

set_option maxHeartbeats 400000 in
theorem left_in (a : Option Addr) (n c : Nat) (bad : Bool) (w : World) :
    Calls Try.prog 49 #[.slice a n c, .bool bad] w fun e w' => e = .returned (.int .i64 (if bad then 0 else (n : Int))) ∧ w = w' := by
  cases bad
  · go_enter Try.func49, Try.ntmps49
    go_wp2
    go_ret
    exact ⟨rfl, rfl⟩
  · go_enter Try.func49, Try.ntmps49
    go_wp2
    go_ret
    exact ⟨rfl, rfl⟩
end Go.Proofs.Ytljoalihioflmaa
