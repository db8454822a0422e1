/-
  The code's seal and Frame. Conditions: those of each theorem ('HalvesAt': memory holds the table).
-/
import Derived.Test.YteipcbpkgpffjaaDoorHalves
import Derived.Test.YteipcbpkgpffjaaDoorCodec
import Derived.Test.YteipcbpkgpffjaaDoorFrames
namespace Go.Proofs.YteipcbpkgpffjaaDoor
open Go.RowKit
set_option maxRecDepth 100000

/-- A new Out holds nothing. -/
theorem OutAt.fresh (w : World) : OutAt (w.alloc (.cells #[.slice none 0 0, .bool false] 101)) w.heap.size (fun k => k = w.heap.size) [] false :=
  ⟨fun _ => rfl, rfl, fun k hk => by subst hk; simp, ⟨_, heap_alloc_new w _, rfl⟩, ⟨none, 0, by simp, World.ownsRow_nil _ _ _ _, fun g hg => by simp [Value.ownBlock] at hg⟩, by simp⟩
theorem fits2 {n : Nat} (h : n < 65536) : fits (n : Int) 2 = true := by
  simp only [fits, Bool.and_eq_true, decide_eq_true_eq]
  omega
theorem putB_fits {xs : List UInt8} (h : xs.length < 65536) : putB [] false xs = (le xs.length 2 ++ xs, false) := by
  simp [putB, putN, fits2 h, addB]

set_option maxHeartbeats 800000 in
theorem code_seal (a : Option Addr) (xs : List UInt8) (n c : Nat) (w : World) (hH : HalvesAt w) (hn : xs.length = n) (hx : IsBytes w a xs) (hnc : a = none → c = 0) (hl : n ≤ 60000) :
    Calls Tryd.prog 63 #[.slice a n c] w fun e w' => e = .returned (.int .i64 (crcSum (le xs.length 2 ++ xs) : Nat)) ∧ Below w.heap.size w w' := by
  subst hn
  have HH := Lib.hid hH
  clear hH
  have A0 : Below w.heap.size w (w.alloc (.cells #[.slice none 0 0, .bool false] 101)) := upd_box _
  have hx0 := hx.below A0
  have hlt := hx.lt
  go_enter Tryd.func63, Tryd.ntmps63
  go_wp2_with fail
  refine (out_bytes (OutAt.fresh w) a xs c hx0 hnc (fun h0 x hx => by have := hlt h0 x hx; show ¬ x.block = w.heap.size; omega) (by simp) (by omega)).mono ?_
  rw [putB_fits (by omega)]
  rintro e w1 ⟨rfl, S1, h1, u1, m1⟩
  have B1 : Below w.heap.size w w1 := A0.trans (upd_below u1 (by simp) (fun k hk => by have h9 : k = w.heap.size := hk; omega))
  clear u1 m1
  have hlen : Hid ((le xs.length 2 ++ xs).length = 2 + xs.length) := by
    show (le xs.length 2 ++ xs).length = 2 + xs.length
    rw [List.length_append, le_length]
  go_wp2_with fail
  refine (end_in h1 (by rw [hlen.out]; omega)).mono ?_
  rintro e w2 ⟨⟨a2, c2, rfl, hr⟩, b2⟩
  obtain ⟨g1, -, -, -, -⟩ := bytes_of_row hr
  have B2 : Below w.heap.size w w2 := B1.trans (b2.mono B1.size)
  have H2 := HH.out.below B2
  rw [hlen.out]
  clear hr h1 b2
  have hw := Lib.hid (wrap_i64 (a := crcSum (le xs.length 2 ++ xs)) (Nat.lt_of_lt_of_le (crcSum_lt _) (by decide)))
  go_wp2_with fail
  refine (code_sum a2 _ _ c2 w2 H2 hlen.out g1 (by unfold maxLen; omega)).mono ?_
  rintro e w3 ⟨rfl, rfl⟩
  go_wp2
  rw [hw.out]
  go_ret
  exact ⟨rfl, B2⟩

/-- An Out of blocks that are all new since w0; nothing that was there has turned. -/
def OutNew (w0 w : World) (p : Nat) (ys : List UInt8) (bad : Bool) : Prop := ∃ S, OutAt w p S ys bad ∧ (∀ k, S k → w0.heap.size ≤ k) ∧ Below w0.heap.size w0 w
theorem OutNew.fresh (w : World) : OutNew w (w.alloc (.cells #[.slice none 0 0, .bool false] 101)) w.heap.size [] false :=
  ⟨_, OutAt.fresh w, fun k hk => by have h9 : k = w.heap.size := hk; omega, upd_box _⟩
theorem OutNew.step {w0 w w' : World} {p : Nat} {S : Nat → Prop} {zs : List UInt8} {b2 : Bool} (hs : ∀ k, S k → w0.heap.size ≤ k) (hb : Below w0.heap.size w0 w) (d : OutDone w p S zs b2 w') : OutNew w0 w' p zs b2 := by
  obtain ⟨S', h1, h2, h3⟩ := d
  exact ⟨S', h1, fun k hk => (h3 k hk).elim (hs k) (fun x => Nat.le_trans hb.size x), hb.trans (upd_below h2 hb.size hs)⟩
theorem OutNew.below {w0 w w' : World} {p : Nat} {ys : List UInt8} {bad : Bool} (h : OutNew w0 w p ys bad) (hb : Below w.heap.size w w') : OutNew w0 w' p ys bad := by
  obtain ⟨S, h1, h2, h3⟩ := h
  exact ⟨S, h1.below hb, h2, h3.trans (hb.mono h3.size)⟩

theorem putN_fits {ys : List UInt8} {v : Int} {n : Nat} (h : fits v n = true) : putN ys false v n = (ys ++ le v n, false) := by
  simp [putN, h, addB]
theorem fits4 {n : Nat} (h : n < 4294967296) : fits (n : Int) 4 = true := by
  simp only [fits, Bool.and_eq_true, decide_eq_true_eq]
  omega
theorem mark_le : le 165 1 = [165] := by decide +kernel
theorem mark_fits : fits 165 1 = true := by decide +kernel

/-- What the code's Frame answers. -/
def FrameOut (w : World) (xs : List UInt8) (e : Ending) (w' : World) : Prop :=
  ∃ a m c er, e = .returned (.tuple #[.slice a m c, .int .i64 er]) ∧ m ≤ maxLen ∧ ((xs.length < 1 ∨ 60000 < xs.length) → m = 0 ∧ er = 4) ∧ (¬ (xs.length < 1 ∨ 60000 < xs.length) → er = 0 ∧ m = 7 + xs.length ∧ IsBytes w' a (frameOf xs) ∧ w'.ownsRow w.heap.size 5 1 (.slice a m c) m ((frameOf xs).map bval)) ∧ Below w.heap.size w w'

set_option maxHeartbeats 800000 in
theorem code_frame_no (a : Option Addr) (xs : List UInt8) (n c : Nat) (w : World) (hn : xs.length = n) (h : n < 1 ∨ 60000 < n) :
    Calls Tryd.prog 41 #[.slice a n c] w (FrameOut w xs) := by
  have HN := Lib.hid hn
  clear hn
  by_cases h0 : n = 0
  · subst h0
    go_enter Tryd.func41, Tryd.ntmps41
    go_wp2
    go_ret2
    exact ⟨none, 0, 0, 4, rfl, Nat.zero_le _, fun _ => ⟨rfl, rfl⟩, fun h => (h (.inl (by rw [HN.out]; omega))).elim, Below.refl _ _⟩
  · have h1 : (60000 : Int) < n := by omega
    have h2 : ((n : Int) == 0) = false := by simp; omega
    go_enter Tryd.func41, Tryd.ntmps41
    go_wp2
    go_ret2
    exact ⟨none, 0, 0, 4, rfl, Nat.zero_le _, fun _ => ⟨rfl, rfl⟩, fun h => (h (.inr (by rw [HN.out]; omega))).elim, Below.refl _ _⟩

set_option maxHeartbeats 1600000 in
theorem code_frame_yes (a : Option Addr) (xs : List UInt8) (c : Nat) (w : World) (hH : HalvesAt w) (hx : IsBytes w a xs) (hnc : a = none → c = 0) (h : ¬ (xs.length < 1 ∨ 60000 < xs.length)) :
    Calls Tryd.prog 41 #[.slice a xs.length c] w (FrameOut w xs) := by
  have h1 : ¬ (60000 : Int) < xs.length := by omega
  have h2 : ((xs.length : Int) == 0) = false := by simp; intro e; subst e; simp at h
  have HH := Lib.hid hH
  have HB := Lib.hid h
  clear hH h
  go_enter Tryd.func41, Tryd.ntmps41
  go_wp2_with fail
  refine (out_u8 (OutAt.fresh w) 165 ⟨by decide, by decide⟩ (by simp)).mono ?_
  rw [putN_fits mark_fits, mark_le, List.nil_append]
  rintro e w1 ⟨rfl, d1⟩
  obtain ⟨S1, o1, s1, b1⟩ := OutNew.step (fun k hk => by have h9 : k = w.heap.size := hk; omega) (upd_box _) d1
  clear d1
  go_wp2_with fail
  refine (out_u16 o1 (xs.length : Int) ⟨by omega, by have := HB.out; omega⟩ (by simp)).mono ?_
  rw [putN_fits (fits2 (by have := HB.out; omega))]
  rintro e w2 ⟨rfl, d2⟩
  obtain ⟨S2, o2, s2, b2⟩ := OutNew.step s1 b1 d2
  clear d2 o1 s1
  go_wp2_with fail
  refine (code_seal a xs xs.length c w2 (HH.out.below b2) rfl (hx.below b2) hnc (by have := HB.out; omega)).mono ?_
  rintro e w3 ⟨rfl, b3⟩
  have o3 := o2.below b3
  have b3 := b2.trans (b3.mono b2.size)
  have hcs := crcSum_lt (le xs.length 2 ++ xs)
  have hlen : Hid (([165] ++ le xs.length 2 ++ le ((crcSum (le xs.length 2 ++ xs) : Nat) : Int) 4).length = 7) := by
    show ([165] ++ le xs.length 2 ++ le ((crcSum (le xs.length 2 ++ xs) : Nat) : Int) 4).length = 7
    simp [le_length]
  go_wp2_with fail
  refine (out_u32 o3 _ ⟨by omega, by omega⟩ (by simp [le_length])).mono ?_
  rw [putN_fits (fits4 (by omega))]
  rintro e w4 ⟨rfl, d4⟩
  obtain ⟨S4, o4, s4, b4⟩ := OutNew.step s2 b3 d4
  clear d4 o3 s2 o2
  go_wp2_with fail
  have hlt := hx.lt
  refine (plain_in o4 a xs xs.length c rfl (hx.below b4) hnc (by rw [hlen.out]; have := HB.out; omega)).mono ?_
  rintro e w5 ⟨rfl, d5⟩
  obtain ⟨S5, o5, s5, b5⟩ := OutNew.step s4 b4 d5
  clear d5 o4 s4
  have e5 : addB ([165] ++ le xs.length 2 ++ le ((crcSum (le xs.length 2 ++ xs) : Nat) : Int) 4) false xs = frameOf xs := by
    simp [addB, frameOf]
  rw [e5] at o5
  have hfl : Hid ((frameOf xs).length = 7 + xs.length) := frameOf_len xs
  go_wp2_with fail
  refine (end_in o5 (by rw [hfl.out]; have := HB.out; omega)).mono ?_
  rintro e w6 ⟨⟨a6, c6, rfl, hr⟩, b6⟩
  rw [hfl.out] at hr ⊢
  obtain ⟨g1, -, -, -, -⟩ := bytes_of_row hr
  have B6 := b5.trans (b6.mono b5.size)
  have e7 : endE false = 0 := rfl
  rw [e7]
  clear o5 e5 e7
  go_wp2
  go_ret2
  exact ⟨a6, 7 + xs.length, c6, 0, rfl, (by unfold maxLen; have := HB.out; omega), fun h => (HB.out h).elim, fun _ => ⟨rfl, rfl, g1, row_mono hr b5.size⟩, B6⟩
theorem code_frame (a : Option Addr) (xs : List UInt8) (n c : Nat) (w : World) (hH : HalvesAt w) (hn : xs.length = n) (hx : IsBytes w a xs) (hnc : a = none → c = 0) :
    Calls Tryd.prog 41 #[.slice a n c] w (FrameOut w xs) := by
  subst hn
  by_cases h : xs.length < 1 ∨ 60000 < xs.length
  · exact code_frame_no a xs _ c w rfl h
  · exact code_frame_yes a xs c w hH hx hnc h
end Go.Proofs.YteipcbpkgpffjaaDoor
