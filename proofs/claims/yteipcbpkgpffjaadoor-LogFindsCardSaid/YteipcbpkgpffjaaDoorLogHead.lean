/-
  A log's first frame: made (begin), and read (head). Conditions: those of each theorem ('HalvesAt': memory holds the table).
-/
import Derived.Test.YteipcbpkgpffjaaDoorLogPlain
import Derived.Test.YteipcbpkgpffjaaDoorSeal
import Derived.Test.YteipcbpkgpffjaaDoorCodecB
namespace Go.Proofs.YteipcbpkgpffjaaDoor
open Go.RowKit
set_option maxRecDepth 100000

/-- The number with which a text begins, and what stands behind it; 0: it has none. -/
def genT (x : List UInt8) : Nat := if x.length < 4 then 0 else numLe (x.take 4)
def imgT (x : List UInt8) : List UInt8 := if x.length < 4 then [] else x.drop 4
theorem genT_lt (x : List UInt8) : genT x < 4294967296 := by
  unfold genT
  split
  · omega
  · have h := numLe_lt (x.take 4)
    rw [List.length_take, Nat.min_eq_left (by omega)] at h
    omega
theorem imgT_len (x : List UInt8) : (imgT x).length ≤ x.length := by
  unfold imgT
  split
  · exact Nat.zero_le _
  · rw [List.length_drop]; omega
theorem genT_head {g : Nat} (im : List UInt8) (hg : g < 4294967296) : genT (headF g im) = g := by
  unfold genT
  rw [if_neg (by rw [headF_len]; omega), headF_num im hg]
theorem imgT_head (g : Nat) (im : List UInt8) : imgT (headF g im) = im := by
  unfold imgT
  rw [if_neg (by rw [headF_len]; omega), headF_image]
theorem genOf_cons {b x : List UInt8} {R : List (List UInt8)} (h : frames b = x :: R) : genOf b = genT x := by
  unfold genOf genT
  rw [h]
theorem genOf_nil {b : List UInt8} (h : frames b = []) : genOf b = 0 := by
  unfold genOf
  rw [h]
theorem genOf_lt (b : List UInt8) : genOf b < 4294967296 := by
  cases h : frames b with
  | nil => rw [genOf_nil h]; omega
  | cons x R => rw [genOf_cons h]; exact genT_lt x
theorem took_head (x : List UInt8) : numLe (took x false 4).1 = genT x ∧ (took x false 4).2.1 = imgT x := by
  unfold took genT imgT
  by_cases h : x.length < 4
  · have hc : canTake x 4 = false := by simp [canTake]; omega
    rw [if_pos h, if_pos h, hc]
    exact ⟨rfl, rfl⟩
  · have hc : canTake x 4 = true := by simp [canTake]; omega
    rw [if_neg h, if_neg h, hc]
    exact ⟨rfl, rfl⟩
theorem took_whole (r : List UInt8) (b : Bool) : (took r b (r.length : Nat)).1 = r := by
  unfold took
  have hc : canTake r (r.length : Nat) = true := by simp [canTake]
  rw [hc]
  simp

set_option maxHeartbeats 800000 in
theorem head_in (ad : Option Addr) (xs : List UInt8) (n c : Nat) (w : World) (hn : xs.length = n) (hx : IsBytes w ad xs) (hnc : ad = none → c = 0) (hl : n ≤ 60000) :
    Calls Tryd.prog 56 #[.slice ad n c] w fun e w' => (∃ a c', e = .returned (.tuple #[.int .i64 (genT xs : Int), .slice a (imgT xs).length c']) ∧ w'.ownsRow w.heap.size 5 1 (.slice a (imgT xs).length c') (imgT xs).length ((imgT xs).map bval)) ∧ Below w.heap.size w w' := by
  have HN := Lib.hid hn
  clear hn
  obtain ⟨t1, t2⟩ := took_head xs
  have T1 := Lib.hid t1
  have T2 := Lib.hid t2
  have hil := imgT_len xs
  clear t1 t2
  go_enter Tryd.func56, Tryd.ntmps56
  go_wp2_with fail
  refine (in_new ad xs n c w HN.out hx hnc (by omega)).mono ?_
  rintro e w1 ⟨p, S, rfl, i1, b1, s1⟩
  go_wp2_with fail
  refine (in_u32 i1).mono ?_
  rintro e w2 ⟨rfl, i2, u2⟩
  rw [T1.out]
  rw [T2.out] at i2
  have B2 : Below w.heap.size w w2 := b1.trans (u2.toBelow b1.size (fun k hk h => by have := s1 p i1.own; have h9 : k = p := h; omega))
  go_wp2_with fail
  refine (in_left i2).mono ?_
  rintro e w3 ⟨rfl, rfl⟩
  go_wp2_with fail
  refine (in_plain i2 _ (by rw [HN.out] at hil; omega)).mono ?_
  rintro e w3 ⟨⟨a, m, c3, rfl, hm, -, -, -, -, hr⟩, i3, u3⟩
  rw [took_whole] at hm hr
  subst hm
  have B3 : Below w.heap.size w w3 := B2.trans (u3.toBelow B2.size (fun k hk h => by have := s1 p i1.own; have h9 : k = p := h; omega))
  have hr2 := row_mono hr B2.size
  clear hr i1 i2 i3 u2 u3
  go_wp2
  go_ret2
  exact ⟨⟨a, c3, rfl, hr2⟩, B3⟩

set_option maxHeartbeats 1600000 in
theorem begin_log (g : Nat) (ad : Option Addr) (im : List UInt8) (n c : Nat) (w : World) (hH : HalvesAt w) (hn : im.length = n) (hx : IsBytes w ad im) (hnc : ad = none → c = 0) (hg : g < 4294967296) (hl : n ≤ 59996) :
    Calls Tryd.prog 45 #[.int .i64 (g : Int), .slice ad n c] w fun e w' => (∃ a c', e = .returned (.tuple #[.slice a (11 + n) c', .int .i64 0]) ∧ w'.ownsRow w.heap.size 5 1 (.slice a (11 + n) c') (11 + n) ((frameOf (headF g im)).map bval)) ∧ Below w.heap.size w w' := by
  have HH := Lib.hid hH
  have HN := Lib.hid hn
  clear hH hn
  go_enter Tryd.func45, Tryd.ntmps45
  go_wp2_with fail
  refine (out_u32 (OutAt.fresh w) (g : Int) ⟨by omega, by omega⟩ (by simp)).mono ?_
  rw [putN_fits (fits4 hg), List.nil_append]
  rintro e w1 ⟨rfl, d1⟩
  obtain ⟨S1, o1, s1, b1⟩ := OutNew.step (fun k hk => by have h9 : k = w.heap.size := hk; omega) (upd_box _) d1
  clear d1
  have hlt := hx.lt
  go_wp2_with fail
  refine (plain_in o1 ad im n c HN.out (hx.below b1) hnc (by rw [le_length]; omega)).mono ?_
  rintro e w2 ⟨rfl, d2⟩
  obtain ⟨S2, o2, s2, b2⟩ := OutNew.step s1 b1 d2
  clear d2 o1 s1
  have e2 : addB (le (g : Int) 4) false im = headF g im := rfl
  rw [e2] at o2
  have hll : Hid ((headF g im).length = 4 + n) := by show (headF g im).length = 4 + n; rw [headF_len, HN.out]
  go_wp2_with fail
  refine (end_in o2 (by rw [hll.out]; omega)).mono ?_
  rintro e w3 ⟨⟨a3, c3, rfl, hr⟩, b3⟩
  rw [hll.out] at hr ⊢
  obtain ⟨g1, -, -, -, g5⟩ := bytes_of_row hr
  have B3 := b2.trans (b3.mono b2.size)
  have e7 : endE false = 0 := rfl
  rw [e7]
  clear o2 e2 e7 hr
  go_wp2_with fail
  refine (code_frame a3 (headF g im) (4 + n) c3 w3 (HH.out.below B3) hll.out g1 g5).mono ?_
  rintro e w4 ⟨a4, m4, c4, er, rfl, -, -, hok, b4⟩
  obtain ⟨rfl, rfl, -, hr4⟩ := hok (by rw [hll.out]; omega)
  have hm : 7 + (headF g im).length = 11 + n := by rw [hll.out]; omega
  rw [hm] at hr4 ⊢
  have hr5 := row_mono hr4 B3.size
  clear hr4 hok g1 g5 hm
  go_wp2
  go_ret2
  exact ⟨⟨a4, c4, rfl, hr5⟩, B3.trans (b4.mono B3.size)⟩
end Go.Proofs.YteipcbpkgpffjaaDoor
