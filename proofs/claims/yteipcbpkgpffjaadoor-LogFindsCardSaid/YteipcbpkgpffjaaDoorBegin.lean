/-
  The code's begin: the bytes of the frame with which bytes begin. Conditions: those of each theorem ('HalvesAt': memory holds the table).
-/
import Derived.Test.YteipcbpkgpffjaaDoorSeal
import Derived.Test.YteipcbpkgpffjaaDoorCodecB
import Derived.Test.YteipcbpkgpffjaaDoorFramesRef
namespace Go.Proofs.YteipcbpkgpffjaaDoor
open Go.RowKit
set_option maxRecDepth 100000

theorem in_below' {w w1 w2 : World} {B p : Nat} {S : Nat → Prop} {r1 r2 : List UInt8} {b1 b2 : Bool} (h : InAt w1 p S r1 b1) (hb : Below B w w1) (hB : B ≤ w.heap.size) (hs : ∀ k, S k → B ≤ k) (d : InDone w1 p S r2 b2 w2) : Below B w w2 :=
  hb.trans (upd_below d.2 (Nat.le_trans hB hb.size) (fun k hk => by
    have h9 : k = p := hk
    subst h9
    exact hs _ h.own))

set_option maxHeartbeats 1600000 in
/-- Fewer than eight bytes. -/
theorem begin_near (a : Option Addr) (xs : List UInt8) (n c : Nat) (w : World) (hn : xs.length = n) (hx : IsBytes w a xs) (hnc : a = none → c = 0) (hc : n ≤ c) (h8 : n < 8) :
    Calls Tryd.prog 79 #[.slice a n c] w fun e w' => e = .returned (.slice none 0 0) ∧ Below w.heap.size w w' := by
  have hc0 : (n : Int) ≤ c := by omega
  have HN := Lib.hid hn
  clear hn
  go_enter Tryd.func79, Tryd.ntmps79
  by_cases h7 : n = 7
  · subst h7
    go_wp2_with fail
    refine (in_new a xs 7 c w HN.out hx hnc (by omega)).mono ?_
    rintro e w1 ⟨p, S, rfl, hi, b1, hS⟩
    go_wp2_with fail
    refine (in_u8 hi).mono ?_
    rintro e w2 ⟨rfl, d2⟩
    have B2 := in_below' hi b1 (Nat.le_refl _) hS d2
    obtain ⟨F, hF⟩ : ∃ F, numLe (took xs false 1).1 = F := ⟨_, rfl⟩
    rw [hF]
    clear hF hi
    go_wp2_with fail
    refine (in_u16 d2.1).mono ?_
    rintro e w3 ⟨rfl, d3⟩
    have B3 := in_below' d2.1 B2 (Nat.le_refl _) hS d3
    obtain ⟨N, hN⟩ : ∃ N, numLe (took (took xs false 1).2.1 (took xs false 1).2.2 2).1 = N := ⟨_, rfl⟩
    rw [hN]
    clear hN d2
    go_wp2_with fail
    refine (in_u32 d3.1).mono ?_
    rintro e w4 ⟨rfl, d4⟩
    have B4 := in_below' d3.1 B3 (Nat.le_refl _) hS d4
    clear d4 d3 hx
    by_cases hF : F = 165
    · have hF' : ((F : Int) != 165) = false := by simp [hF]
      clear hF
      by_cases hN : N < 1
      · have hN' : (N : Int) < 1 := by omega
        go_wp2
        go_ret
        exact ⟨rfl, B4⟩
      · have hN' : ¬ (N : Int) < 1 := by omega
        have hN2 : (0 : Int) < N := by omega
        go_wp2
        go_ret
        exact ⟨rfl, B4⟩
    · have hF' : ((F : Int) != 165) = true := by simp; omega
      clear hF
      go_wp2
      go_ret
      exact ⟨rfl, B4⟩
  · have h7' : (n : Int) < 7 := by omega
    go_wp2_with fail
    refine (in_new a xs n c w HN.out hx hnc (by omega)).mono ?_
    rintro e w1 ⟨p, S, rfl, hi, b1, hS⟩
    go_wp2_with fail
    refine (in_u8 hi).mono ?_
    rintro e w2 ⟨rfl, d2⟩
    have B2 := in_below' hi b1 (Nat.le_refl _) hS d2
    obtain ⟨F, hF⟩ : ∃ F, numLe (took xs false 1).1 = F := ⟨_, rfl⟩
    rw [hF]
    clear hF hi
    go_wp2_with fail
    refine (in_u16 d2.1).mono ?_
    rintro e w3 ⟨rfl, d3⟩
    have B3 := in_below' d2.1 B2 (Nat.le_refl _) hS d3
    obtain ⟨N, hN⟩ : ∃ N, numLe (took (took xs false 1).2.1 (took xs false 1).2.2 2).1 = N := ⟨_, rfl⟩
    rw [hN]
    clear hN d2
    go_wp2_with fail
    refine (in_u32 d3.1).mono ?_
    rintro e w4 ⟨rfl, d4⟩
    have B4 := in_below' d3.1 B3 (Nat.le_refl _) hS d4
    clear d4 d3 hx
    by_cases hF : F = 165
    · have hF' : ((F : Int) != 165) = false := by simp [hF]
      clear hF
      by_cases hN : N < 1
      · have hN' : (N : Int) < 1 := by omega
        go_wp2
        go_ret
        exact ⟨rfl, B4⟩
      · have hN' : ¬ (N : Int) < 1 := by omega
        have hN2 : (n : Int) - 7 < N := by omega
        have hN3 : (n : Int) - 7 < 60000 := by omega
        go_wp2
        go_ret
        exact ⟨rfl, B4⟩
    · have hF' : ((F : Int) != 165) = true := by simp; omega
      clear hF
      go_wp2
      go_ret
      exact ⟨rfl, B4⟩


theorem took_all {xs : List UInt8} {n : Nat} (h : n ≤ xs.length) : took xs false (n : Nat) = (xs.take n, xs.drop n, false) := by
  unfold took canTake
  have h1 : (n : Int) ≤ xs.length := by omega
  simp [h1]
theorem head1 {xs : List UInt8} (h : 7 ≤ xs.length) : took (xs.take 7) false 1 = (xs.take 1, (xs.drop 1).take 6, false) := by
  have e := took_all (xs := xs.take 7) (n := 1) (by simp; omega)
  rw [List.take_take, List.drop_take] at e
  exact e
theorem head2 {xs : List UInt8} (h : 7 ≤ xs.length) : took ((xs.drop 1).take 6) false 2 = ((xs.drop 1).take 2, (xs.drop 3).take 4, false) := by
  have e := took_all (xs := (xs.drop 1).take 6) (n := 2) (by simp; omega)
  rw [List.take_take, List.drop_take, List.drop_drop] at e
  exact e
theorem head3 {xs : List UInt8} (h : 7 ≤ xs.length) : took ((xs.drop 3).take 4) false 4 = ((xs.drop 3).take 4, [], false) := by
  have e := took_all (xs := (xs.drop 3).take 4) (n := 4) (by simp; omega)
  rw [List.take_take, List.drop_take] at e
  simpa using e
theorem mark_at {xs : List UInt8} (h : 8 ≤ xs.length) : numLe (xs.take 1) = 165 ↔ xs[0]? = some 165 := by
  cases xs with
  | nil => simp at h
  | cons b l =>
    simp only [List.take_succ_cons, List.take_zero, numLe, List.getElem?_cons_zero, Option.some.injEq]
    constructor
    · intro e
      exact UInt8.toNat_inj.1 (by show b.toNat = 165; omega)
    · intro e
      subst e
      rfl

theorem read1 {w : World} {p : Nat} {S : Nat → Prop} {xs : List UInt8} (h7 : 7 ≤ xs.length) (h : InAt w p S (xs.take 7) false) :
    Calls Tryd.prog 84 #[.pointer (some ⟨p, 0, none⟩)] w fun e w' => e = .returned (.int .i64 (numLe (xs.take 1) : Nat)) ∧ InDone w p S ((xs.drop 1).take 6) false w' := by
  have h1 := in_u8 h
  rw [head1 h7] at h1
  exact h1
theorem read2 {w : World} {p : Nat} {S : Nat → Prop} {xs : List UInt8} (h7 : 7 ≤ xs.length) (h : InAt w p S ((xs.drop 1).take 6) false) :
    Calls Tryd.prog 85 #[.pointer (some ⟨p, 0, none⟩)] w fun e w' => e = .returned (.int .i64 (numLe ((xs.drop 1).take 2) : Nat)) ∧ InDone w p S ((xs.drop 3).take 4) false w' := by
  have h1 := in_u16 h
  rw [head2 h7] at h1
  exact h1
theorem read3 {w : World} {p : Nat} {S : Nat → Prop} {xs : List UInt8} (h7 : 7 ≤ xs.length) (h : InAt w p S ((xs.drop 3).take 4) false) :
    Calls Tryd.prog 71 #[.pointer (some ⟨p, 0, none⟩)] w fun e w' => e = .returned (.int .i64 (numLe ((xs.drop 3).take 4) : Nat)) ∧ InDone w p S [] false w' := by
  have h1 := in_u32 h
  rw [head3 h7] at h1
  exact h1

theorem le_head {xs : List UInt8} {N : Nat} (h : numLe ((xs.drop 1).take 2) = N) (h3 : 3 ≤ xs.length) : le (N : Int) 2 = (xs.drop 1).take 2 := by
  have hlt := part2_lt (xs.drop 1) 2
  refine numLe_inj (by rw [le_length]; simp; omega) ?_
  rw [numLe_le, h]
  omega

/-- What the code's begin answers. -/
def BeginOut (a : Option Addr) (xs : List UInt8) (c : Nat) (e : Ending) : Prop :=
  (frameAt xs = none ∧ e = .returned (.slice none 0 0)) ∨ (∃ x b off, frameAt xs = some x ∧ a = some ⟨b, off, none⟩ ∧ e = .returned (.slice (some ⟨b, off + 7, none⟩) x.length (c - 7)))

set_option maxHeartbeats 1600000 in
/-- Eight bytes, or more. -/
theorem begin_far (a : Option Addr) (xs : List UInt8) (n c : Nat) (w : World) (hH : HalvesAt w) (hn : xs.length = n) (hx : IsBytes w a xs) (hnc : a = none → c = 0) (hc : n ≤ c) (hcm : c ≤ maxLen) (h8 : 8 ≤ n) :
    Calls Tryd.prog 79 #[.slice a n c] w fun e w' => BeginOut a xs c e ∧ Below w.heap.size w w' := by
  unfold maxLen at hcm
  rcases hx with rfl | ⟨b, off, rfl, hb, hcs⟩
  · simp at hn; omega
  have hc0 : (n : Int) ≤ c := by omega
  have h7' : (7 : Int) ≤ n := by omega
  have h7c : (7 : Int) ≤ c := by omega
  have hc7 : ¬ c = 7 := by omega
  have HN := Lib.hid hn
  have HCS := Lib.hid hcs
  have HH := Lib.hid hH
  have hl7 : Hid ((xs.take 7).length = 7) := by
    show (xs.take 7).length = 7
    rw [List.length_take, HN.out]; omega
  have hle : Hid (7 ≤ xs.length) := by
    show 7 ≤ xs.length
    rw [HN.out]; omega
  have hx : IsBytes w (some ⟨b, off, none⟩) xs := .inr ⟨b, off, rfl, hb, hcs⟩
  clear hn hcs hH
  go_enter Tryd.func79, Tryd.ntmps79
  go_wp2_with fail
  refine (in_new _ (xs.take 7) 7 c w hl7.out (hx.take' 7) hnc (by omega)).mono ?_
  rintro e w1 ⟨p, S, rfl, hi, b1, hS⟩
  go_wp2_with fail
  refine (read1 hle.out hi).mono ?_
  rintro e w2 ⟨rfl, d2⟩
  have B2 := in_below' hi b1 (Nat.le_refl _) hS d2
  have hmk := Lib.hid (mark_at (xs := xs) (by rw [HN.out]; omega))
  obtain ⟨F, hF⟩ : ∃ F, numLe (xs.take 1) = F := ⟨_, rfl⟩
  rw [hF]
  have HF := Lib.hid hF
  clear hF hi
  go_wp2_with fail
  refine (read2 hle.out d2.1).mono ?_
  rintro e w3 ⟨rfl, d3⟩
  have B3 := in_below' d2.1 B2 (Nat.le_refl _) hS d3
  have hN6 := part2_lt (xs.drop 1) 2
  obtain ⟨N, hN⟩ : ∃ N, numLe ((xs.drop 1).take 2) = N := ⟨_, rfl⟩
  rw [hN] at hN6 ⊢
  have HNN := Lib.hid hN
  clear hN d2
  go_wp2_with fail
  refine (read3 hle.out d3.1).mono ?_
  rintro e w4 ⟨rfl, d4⟩
  have B4 := in_below' d3.1 B3 (Nat.le_refl _) hS d4
  obtain ⟨Z, hZ⟩ : ∃ Z, numLe ((xs.drop 3).take 4) = Z := ⟨_, rfl⟩
  rw [hZ]
  have HZ := Lib.hid hZ
  clear hZ d3 d4
  by_cases hF : F = 165
  · have hF' : ((F : Int) != 165) = false := by simp [hF]
    have h0 : Hid (xs[0]? = some 165) := hmk.out.1 (by rw [HF.out, hF])
    clear hF
    by_cases hbad : N < 1 ∨ 60000 < N ∨ n < 7 + N
    · have hno : Hid (frameAt xs = none) := frameAt_bad HNN.out (by rw [HN.out]; exact hbad)
      by_cases hq1 : N < 1
      · have hq1' : (N : Int) < 1 := by omega
        clear hbad
        go_wp2
        go_ret
        exact ⟨.inl ⟨hno.out, rfl⟩, B4⟩
      · have hq1' : ¬ (N : Int) < 1 := by omega
        by_cases hq2 : n - 7 < 60000
        · have hq2' : (n : Int) - 7 < 60000 := by omega
          have hq3' : (n : Int) - 7 < N := by omega
          clear hbad
          go_wp2
          go_ret
          exact ⟨.inl ⟨hno.out, rfl⟩, B4⟩
        · have hq2' : ¬ (n : Int) - 7 < 60000 := by omega
          have hq3' : (60000 : Int) < N := by omega
          clear hbad
          go_wp2
          go_ret
          exact ⟨.inl ⟨hno.out, rfl⟩, B4⟩
    · have hq1' : ¬ (N : Int) < 1 := by omega
      have hq6 : (7 : Int) + (N : Int) ≤ (c : Int) := by omega
      have hq7 : (7 : Int) ≤ 7 + (N : Int) := by omega
      have hxl : Hid (((xs.drop 7).take N).length = N) := by
        show ((xs.drop 7).take N).length = N
        rw [List.length_take, List.length_drop, HN.out]; omega
      have HBAD := Lib.hid hbad
      have hx4 : IsBytes w4 (some ⟨b, off + 7, none⟩) ((xs.drop 7).take N) := (at_off HCS.out hb 7 N).below B4
      by_cases hq2 : n - 7 < 60000
      · have hq2' : (n : Int) - 7 < 60000 := by omega
        have hq3' : ¬ (n : Int) - 7 < N := by omega
        clear hbad
        go_wp2_with fail
        refine (code_seal _ ((xs.drop 7).take N) N (c - 7) w4 (HH.out.below B4) hxl.out hx4 (fun x => by cases x) (by have := HBAD.out; omega)).mono ?_
        rintro e w5 ⟨rfl, b5⟩
        have B5 := B4.trans (b5.mono B4.size)
        obtain ⟨C, hC⟩ : ∃ C, crcSum (le ((xs.drop 7).take N).length 2 ++ (xs.drop 7).take N) = C := ⟨_, rfl⟩
        rw [hC]
        have hsum : Hid (crcSum ((xs.drop 1).take 2 ++ (xs.drop 7).take N) = C) := by
          show crcSum ((xs.drop 1).take 2 ++ (xs.drop 7).take N) = C
          rw [← hC, hxl.out, le_head HNN.out (by rw [HN.out]; omega)]
        clear hC
        by_cases hz : Z = C
        · have hz' : ((Z : Int) != (C : Int)) = false := by simp [hz]
          have hyes : Hid (frameAt xs = some ((xs.drop 7).take N)) := frameAt_good (by rw [HN.out]; exact h8) h0.out HNN.out (by rw [HN.out]; exact HBAD.out) (by rw [HZ.out, hsum.out, hz])
          clear hz
          go_wp2
          go_ret
          exact ⟨.inr ⟨_, b, off, hyes.out, rfl, congrArg (fun m => Ending.returned (Value.slice (some ⟨b, off + 7, none⟩) m (c - 7))) (by rw [hxl.out])⟩, B5⟩
        · have hz' : ((Z : Int) != (C : Int)) = true := by simp; omega
          have hno : Hid (frameAt xs = none) := frameAt_sum HNN.out (by rw [HZ.out, hsum.out]; exact hz)
          clear hz
          go_wp2
          go_ret
          exact ⟨.inl ⟨hno.out, rfl⟩, B5⟩
      · have hq2' : ¬ (n : Int) - 7 < 60000 := by omega
        have hq3' : ¬ (60000 : Int) < N := by omega
        clear hbad
        go_wp2_with fail
        refine (code_seal _ ((xs.drop 7).take N) N (c - 7) w4 (HH.out.below B4) hxl.out hx4 (fun x => by cases x) (by have := HBAD.out; omega)).mono ?_
        rintro e w5 ⟨rfl, b5⟩
        have B5 := B4.trans (b5.mono B4.size)
        obtain ⟨C, hC⟩ : ∃ C, crcSum (le ((xs.drop 7).take N).length 2 ++ (xs.drop 7).take N) = C := ⟨_, rfl⟩
        rw [hC]
        have hsum : Hid (crcSum ((xs.drop 1).take 2 ++ (xs.drop 7).take N) = C) := by
          show crcSum ((xs.drop 1).take 2 ++ (xs.drop 7).take N) = C
          rw [← hC, hxl.out, le_head HNN.out (by rw [HN.out]; omega)]
        clear hC
        by_cases hz : Z = C
        · have hz' : ((Z : Int) != (C : Int)) = false := by simp [hz]
          have hyes : Hid (frameAt xs = some ((xs.drop 7).take N)) := frameAt_good (by rw [HN.out]; exact h8) h0.out HNN.out (by rw [HN.out]; exact HBAD.out) (by rw [HZ.out, hsum.out, hz])
          clear hz
          go_wp2
          go_ret
          exact ⟨.inr ⟨_, b, off, hyes.out, rfl, congrArg (fun m => Ending.returned (Value.slice (some ⟨b, off + 7, none⟩) m (c - 7))) (by rw [hxl.out])⟩, B5⟩
        · have hz' : ((Z : Int) != (C : Int)) = true := by simp; omega
          have hno : Hid (frameAt xs = none) := frameAt_sum HNN.out (by rw [HZ.out, hsum.out]; exact hz)
          clear hz
          go_wp2
          go_ret
          exact ⟨.inl ⟨hno.out, rfl⟩, B5⟩
  · have hF' : ((F : Int) != 165) = true := by simp; omega
    have hno : Hid (frameAt xs = none) := frameAt_mark (fun e => hF (by rw [← HF.out]; exact hmk.out.2 e))
    clear hF
    go_wp2
    go_ret
    exact ⟨.inl ⟨hno.out, rfl⟩, B4⟩

theorem code_begin (a : Option Addr) (xs : List UInt8) (n c : Nat) (w : World) (hH : HalvesAt w) (hn : xs.length = n) (hx : IsBytes w a xs) (hnc : a = none → c = 0) (hc : n ≤ c) (hcm : c ≤ maxLen) :
    Calls Tryd.prog 79 #[.slice a n c] w fun e w' => BeginOut a xs c e ∧ Below w.heap.size w w' := by
  by_cases h8 : 8 ≤ n
  · exact begin_far a xs n c w hH hn hx hnc hc hcm h8
  · refine (begin_near a xs n c w hn hx hnc hc (by omega)).mono ?_
    rintro e w' ⟨rfl, hb⟩
    exact ⟨.inl ⟨frameAt_short (by omega), rfl⟩, hb⟩
end Go.Proofs.YteipcbpkgpffjaaDoor
