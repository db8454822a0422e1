/-
  CentsAll: a list's sum is what it comes to, one by one, or refused, where one isn't right, or what comes on the way. No conditions: every input.
-/
import Derived.Test.YteaapfagajdomaaCentsTimes
import Derived.Lib.Hide
namespace Go.Proofs.Yteaapfagajdomaa
open Go.RowKit Go.WideShapes
set_option maxRecDepth 100000

/-- The sums of a slice, where it has any. -/
def IsInts (w : World) (a : Option Addr) (xs : List Int) : Prop :=
  xs = [] ∨ ∃ b off, a = some ⟨b, off, none⟩ ∧ b < w.heap.size ∧ ∀ i (h : i < xs.length), w.cell? ⟨b, off + i, none⟩ = some (.int .i64 xs[i])
theorem IsInts.below {w w' : World} {a : Option Addr} {xs : List Int} (h : IsInts w a xs) (hb : Below w.heap.size w w') : IsInts w' a xs := by
  rcases h with rfl | ⟨b, off, rfl, hlt, hc⟩
  · exact .inl rfl
  · exact .inr ⟨b, off, rfl, Nat.lt_of_lt_of_le hlt hb.size, fun i h => by rw [hb.cell hlt]; exact hc i h⟩
theorem Rd.ints {P : Program} {w : World} {t e : TypeId} {cs : List Value} (h : Rd P w t cs) (ht : P.underlying t = some (.slice e)) (he : P.underlying e = some (.int .i64)) (hs : P.cellsOf e = 1) :
    ∃ (a : Option Addr) (cap : Nat) (xs : List Int), cs = [.slice a xs.length cap] ∧ xs.length ≤ cap ∧ cap ≤ maxLen ∧ IsInts w a xs := by
  obtain ⟨a, len, cap, hcs, hl, hm, hc, _⟩ := h.slice_at ht hs (Nat.one_pos)
  rcases hc with h0 | ⟨b, off, rfl, hb, hi⟩
  · obtain rfl : len = 0 := by omega
    exact ⟨a, cap, [], hcs, hl, hm, .inl rfl⟩
  · have key : ∀ i, i < cap → ∃ x : Int, w.cell? ⟨b, off + i, none⟩ = some (.int .i64 x) := by
      intro i hlt
      obtain ⟨cs', _, h1, h2⟩ := hi i hlt
      obtain ⟨n, rfl, hn⟩ := h2.int he
      have := h1 0 Nat.one_pos
      simp only [Nat.mul_one, Nat.add_zero, List.getElem?_cons_zero] at this
      exact ⟨n, this⟩
    have hch : ∃ f : Nat → Int, ∀ i, i < cap → w.cell? ⟨b, off + i, none⟩ = some (.int .i64 (f i)) :=
      ⟨fun i => if h : i < cap then Classical.choose (key i h) else 0, fun i h => by simp only [dif_pos h]; exact Classical.choose_spec (key i h)⟩
    obtain ⟨f, hf⟩ := hch
    refine ⟨some ⟨b, off, none⟩, cap, (List.range len).map f, by simpa using hcs, by simpa using hl, hm, .inr ⟨b, off, rfl, hb, fun i h => ?_⟩⟩
    simp only [List.length_map, List.length_range] at h
    simp only [List.getElem_map, List.getElem_range]
    exact hf i (by omega)

/-- What a list comes to, behind what came so far; none: it is refused on the way. -/
def sumOf : Int → List Int → Option Int
  | s, [] => some s
  | s, a :: l => if Rt a && Rt (s + a) then sumOf (s + a) l else none
def sumV : Option Int → Int
  | some v => v
  | none => 0
def sumE : Option Int → Int
  | some _ => 0
  | none => 9

set_option maxHeartbeats 800000 in
theorem cents_sum (a : Option Addr) (xs : List Int) (n c : Nat) (w : World) (hn : xs.length = n) (hx : IsInts w a xs) (hl : n ≤ maxLen) :
    Calls Try.prog 18 #[.slice a n c] w fun e w' => e = .returned (.tuple #[.int .i64 (sumV (sumOf 0 xs)), .int .i64 (sumE (sumOf 0 xs))]) ∧ w = w' := by
  unfold maxLen at hl
  have HN := Lib.hid hn
  clear hn
  go_enter Try.func18, Try.ntmps18
  go_wp2
  go_loop [4, 6, 7, 8, 11] (fun s _ _ _ i => ∃ (k : Nat) (v : Int), k ≤ n ∧ i = .int .i64 k ∧ s = .int .i64 v ∧ Rt v = true ∧ sumOf 0 xs = sumOf v (xs.drop k)) (fun _ _ _ _ i => n - (intOf i).toNat)
  case atStart => exact ⟨0, 0, Nat.zero_le _, rfl, rfl, by decide, rfl⟩
  case round =>
    obtain ⟨k, v, hk, rfl, rfl, hv, hs⟩ := hrel
    have HS := Lib.hid hs
    clear hs
    by_cases hlt : k < n
    · rcases hx with rfl | ⟨b, off, rfl, hb, hcs⟩
      · have := HN.out; simp at this; omega
      have hlk : k < xs.length := by rw [HN.out]; exact hlt
      have hck := hcs k hlk
      clear hcs
      have hk0 : (0 : Int) ≤ (k : Int) := by omega
      have hkn : (k : Int) < (n : Int) := by omega
      have hd : Hid (xs.drop k = xs[k] :: xs.drop (k + 1)) := List.drop_eq_getElem_cons hlk
      generalize xs[k] = x at *
      have hA := cents_add v x w
      rw [hv, Bool.true_and] at hA
      go_wp2_with fail
      by_cases hc : (Rt x && Rt (v + x)) = true
      · have hcx : Rt x = true := by simp only [Bool.and_eq_true] at hc; exact hc.1
        have hcv : Rt (v + x) = true := by simp only [Bool.and_eq_true] at hc; exact hc.2
        rw [told_yes hc] at hA
        refine hA.mono ?_
        rintro e w1 ⟨rfl, rfl⟩
        have HC := Lib.hid hc
        clear hc
        go_wp2
        go_round
        case rel =>
          refine ⟨k + 1, v + x, by omega, by go_num, rfl, hcv, ?_⟩
          rw [HS.out, hd.out, sumOf, if_pos HC.out]
        case measure => simp [intOf]; omega
      · have hc : (Rt x && Rt (v + x)) = false := by simpa using hc
        rw [told_no hc] at hA
        refine hA.mono ?_
        rintro e w1 ⟨rfl, rfl⟩
        have hno : Hid (sumOf 0 xs = none) := by
          show sumOf 0 xs = none
          rw [HS.out, hd.out, sumOf, hc]
          rfl
        clear hc
        go_wp2
        go_ret2
        exact ⟨by rw [hno.out]; rfl, rfl⟩
    · obtain rfl : k = n := by omega
      have hno : Hid (sumOf 0 xs = some v) := by
        show sumOf 0 xs = some v
        rw [HS.out, List.drop_of_length_le (by have := HN.out; omega)]
        rfl
      go_wp2
      go_ret2
      exact ⟨by rw [hno.out]; rfl, rfl⟩

set_option maxHeartbeats 1600000 in
theorem all_law (a : Option Addr) (xs : List Int) (n c : Nat) (w : World) (hn : xs.length = n) (hx : IsInts w a xs) (hl : n ≤ maxLen) :
    Calls Try.prog 6 #[.slice a n c] w fun e w' => e = .returned (.bool true) ∧ Below w.heap.size w w' := by
  unfold maxLen at hl
  by_cases hbig : 1000 < n
  · have hb' : (1000 : Int) < (n : Int) := by omega
    go_enter Try.func6, Try.ntmps6
    go_wp2_with fail
    refine (cents_awake w).mono ?_
    rintro e w1 ⟨rfl, d1⟩
    go_wp2_with fail
    refine (cents_awake w1).mono ?_
    rintro e w2 ⟨rfl, d2⟩
    go_wp2
    go_ret
    exact ⟨rfl, d1.trans (d2.mono d1.size)⟩
  · have hb' : ¬ (1000 : Int) < (n : Int) := by omega
    go_enter Try.func6, Try.ntmps6
    go_wp2_with fail
    refine (cents_awake w).mono ?_
    rintro e w1 ⟨rfl, d1⟩
    have hx1 := hx.below d1
    have hS := cents_sum a xs n c w1 hn hx1 (by unfold maxLen; omega)
    generalize hQ : sumOf 0 xs = Q at hS
    have HN := Lib.hid hn
    have HQ := Lib.hid hQ
    have D1 := Lib.hid d1
    clear hn hQ d1 hx
    generalize hV : sumV Q = V at hS
    generalize hE : sumE Q = E at hS
    have HV := Lib.hid hV
    have HE := Lib.hid hE
    clear hV hE
    go_wp2_with fail
    refine hS.mono ?_
    rintro e w2 ⟨rfl, rfl⟩
    go_wp2
    go_loop [5, 6, 22] (fun s _ i => ∃ (k : Nat) (v : Int), k ≤ n ∧ i = .int .i64 k ∧ s = .int .i64 v ∧ Rt v = true ∧ Q = sumOf v (xs.drop k)) (fun _ _ i => n - (intOf i).toNat)
    case atStart => exact ⟨0, 0, Nat.zero_le _, rfl, rfl, by decide, HQ.out.symm⟩
    case round =>
      obtain ⟨k, v, hk, rfl, rfl, hv, hs⟩ := hrel
      have QS := Lib.hid hs
      clear hs
      have v1 := (rt_iff.1 hv).1
      have v2 := (rt_iff.1 hv).2
      by_cases hlt : k < n
      · rcases hx1 with rfl | ⟨b, off, rfl, hb, hcs⟩
        · have := HN.out; simp at this; omega
        have hlk : k < xs.length := by rw [HN.out]; exact hlt
        have hck := hcs k hlk
        clear hcs
        have hk0 : (0 : Int) ≤ (k : Int) := by omega
        have hkn : (k : Int) < (n : Int) := by omega
        have hd : Hid (xs.drop k = xs[k] :: xs.drop (k + 1)) := List.drop_eq_getElem_cons hlk
        generalize xs[k] = x at *
        by_cases hcx : Rt x = true
        · have x1 := (rt_iff.1 hcx).1
          have x2 := (rt_iff.1 hcx).2
          by_cases hcv : Rt (v + x) = true
          · have hc : Hid (Q = sumOf (v + x) (xs.drop (k + 1))) := by
              show Q = _
              rw [QS.out, hd.out, sumOf, hcx, hcv]
              rfl
            have HV2 := Lib.hid hcv
            clear hd QS
            go_wp2_with fail
            refine (ref_right x w1).mono ?_
            rintro e w2 ⟨rfl, rfl⟩
            rw [hcx]
            go_wp2_with fail
            refine (ref_right (v + x) w1).mono ?_
            rintro e w2 ⟨rfl, rfl⟩
            rw [hcv]
            go_wp2
            go_round
            case rel => exact ⟨k + 1, v + x, by omega, by go_num, rfl, HV2.out, hc.out⟩
            case measure => simp [intOf]; omega
          · have hcv : Rt (v + x) = false := by simpa using hcv
            have hc : Q = none := by
              rw [QS.out, hd.out, sumOf, hcx, hcv]
              rfl
            obtain rfl : V = 0 := by rw [← HV.out, hc]; rfl
            obtain rfl : E = 9 := by rw [← HE.out, hc]; rfl
            clear hc hd QS HV HE hS
            go_wp2_with fail
            refine (ref_right x w1).mono ?_
            rintro e w2 ⟨rfl, rfl⟩
            rw [hcx]
            go_wp2_with fail
            refine (ref_right (v + x) w1).mono ?_
            rintro e w2 ⟨rfl, rfl⟩
            rw [hcv]
            go_wp2
            go_ret
            exact ⟨rfl, D1.out⟩
        · have hcx : Rt x = false := by simpa using hcx
          have hc : Q = none := by
            rw [QS.out, hd.out, sumOf, hcx]
            rfl
          obtain rfl : V = 0 := by rw [← HV.out, hc]; rfl
          obtain rfl : E = 9 := by rw [← HE.out, hc]; rfl
          clear hc hd QS HV HE hS
          go_wp2_with fail
          refine (ref_right x w1).mono ?_
          rintro e w2 ⟨rfl, rfl⟩
          rw [hcx]
          go_wp2
          go_ret
          exact ⟨rfl, D1.out⟩
      · obtain rfl : k = n := by omega
        have hc : Q = some v := by
          rw [QS.out, List.drop_of_length_le (by have := HN.out; omega)]
          rfl
        obtain rfl : V = v := by rw [← HV.out, hc]; rfl
        obtain rfl : E = 0 := by rw [← HE.out, hc]; rfl
        clear hc QS HV HE hS
        go_wp2
        go_ret
        exact ⟨rfl, D1.out⟩
theorem all_contract (W : World) (args : Array Value) (h : Each Try.prog W Try.f6.params.toList args.toList) :
    Calls Try.prog 6 args W fun e W' => e = .returned (.bool true) ∧ Below W.heap.size W W' := by
  rw [Try.params6] at h
  obtain ⟨v, rfl', ⟨_, o0⟩, d0⟩ := each_one h
  obtain ⟨args⟩ := args
  obtain rfl : args = [v] := rfl'
  obtain ⟨a, n, c, rfl, hc0⟩ := val_slice o0 Try.underlying34
  rw [hc0] at d0
  obtain ⟨a', c', xs, e, h1, h2, h3⟩ := d0.ints Try.underlying34 Try.underlying2 (by kernel_rfl)
  injection e with e _
  injection e with e1 e2 e3
  subst e1 e2 e3
  exact all_law _ xs _ _ W rfl h3 (Nat.le_trans h1 h2)

theorem all_lifted (os : Os) (started : os.Started) (H : Type) (enc : TypeId × Value → H) :
    ReturnsInHanded {} Try.checked os 6 .any (Rows.centsAllSpec.pre6 enc Try.prog Try.f6 Rows.centsAllRow.domain false) (Rows.centsAllSpec.post enc Try.prog Try.f6 false true false false) :=
  law_lifted (C := Try.checked) cents_own cents_laidOut (by kernel_rfl) Try.func6 rfl (tb := 4) rfl Try.underlying4
    (by
      rw [Try.params6]; intro t ht; simp at ht
      obtain rfl := ht; exact ⟨by kernel_rfl, of_decide_eq_true (by kernel_rfl)⟩)
    (fun H ds hl => by
      rw [Try.params6] at hl
      match ds, hl with
      | [d1], _ => rfl)
    os started H enc
    (ChangeSpec.witness6 (enc := enc) (C := Try.checked) false ⟨#[], #[.slice none 0 0], []⟩ 8 (by kernel_rfl) (by kernel_rfl) (by kernel_rfl) (by kernel_rfl))
    all_contract

theorem centsAll_holds : Rows.CentsAllSaid :=
  OpenClaim.holds_of_wide 6 Try.f6 rfl rfl rfl rfl rfl rfl rfl ⟨rfl, rfl, rfl, rfl, rfl⟩ rfl rfl rfl rfl rfl (by kernel_rfl) Try.func6 (by kernel_rfl)
    (of_decide_eq_true (by kernel_rfl)) (by unfold Func.isWrapper; first | (rw [if_pos (by decide +kernel)]; kernel_rfl) | (rw [if_neg (by decide +kernel)]; exact ⟨rfl, rfl⟩))
    (fun os started H enc _ => all_lifted os started H enc)
#print axioms centsAll_holds
end Go.Proofs.Yteaapfagajdomaa
