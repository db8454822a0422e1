/-
  Which file of a log counts: the code's counting, ready. Conditions: those of each theorem ('DiskAt': the pointer leads to a disk that holds D; 'HalvesAt': memory holds the table).
-/
import Derived.Test.YteipcbpkgpffjaaDoorLogDisk
import Derived.Test.YteipcbpkgpffjaaDoorLogHead
import Derived.Test.YteipcbpkgpffjaaDoorFirst
namespace Go.Proofs.YteipcbpkgpffjaaDoor
open Go.RowKit
set_option maxRecDepth 100000

/-- The first frame's text. -/
def headOf (b : List UInt8) : List UInt8 :=
  match frames b with
  | [] => []
  | x :: _ => x
theorem headOf_nil {b : List UInt8} (h : frames b = []) : headOf b = [] := by unfold headOf; rw [h]
theorem headOf_cons {b x : List UInt8} {R : List (List UInt8)} (h : frames b = x :: R) : headOf b = x := by unfold headOf; rw [h]
theorem headOf_gen (b : List UInt8) : genT (headOf b) = genOf b := by
  cases h : frames b with
  | nil => rw [headOf_nil h, genOf_nil h]; rfl
  | cons x R => rw [headOf_cons h, genOf_cons h]
theorem headOf_len (b : List UInt8) : (headOf b).length ≤ 60000 := by
  cases h : frames b with
  | nil => rw [headOf_nil h]; exact Nat.zero_le _
  | cons x R =>
    rw [headOf_cons h]
    have h2 := frames_len (xs := b) (i := 0) (by rw [h]; simp)
    simp only [h, List.getElem_cons_zero] at h2
    exact h2.2
/-- First, told in one form. -/
theorem first_one (a : Option Addr) (xs : List UInt8) (m c : Nat) (w : World) (hH : HalvesAt w) (hn : xs.length = m) (hx : IsBytes w a xs) (hnc : a = none → c = 0) (hc : m ≤ c) (hcm : c ≤ maxLen) :
    Calls Tryd.prog 55 #[.slice a m c] w fun e w' => (∃ ad n cc q er, e = .returned (.tuple #[.slice ad n cc, .int .i64 q, .int .i64 er]) ∧ (headOf xs).length = n ∧ IsBytes w' ad (headOf xs) ∧ (ad = none → cc = 0)) ∧ Below w.heap.size w w' := by
  refine (callsIn_wide.1 (code_first 0 a xs m c w hH hn hx hnc hc hcm)).mono ?_
  rintro e w' ⟨⟨h1, rfl⟩ | ⟨h1, ad, cc, rfl, h2, h3, h4, h5⟩, hb⟩
  · exact ⟨⟨none, 0, 0, 0, 3, rfl, by rw [headOf_nil h1]; rfl, .inl (headOf_nil h1), fun _ => rfl⟩, hb⟩
  · have e1 : headOf xs = (frames xs)[0] := by
      have hx : ∃ x R, frames xs = x :: R := by
        cases h : frames xs with
        | nil => rw [h] at h1; simp at h1
        | cons x R => exact ⟨x, R, rfl⟩
      obtain ⟨x, R, h⟩ := hx
      rw [headOf_cons h]
      simp [h]
    exact ⟨⟨ad, _, cc, _, 0, rfl, by rw [e1], by rw [e1]; exact h2, h5⟩, hb⟩

set_option maxHeartbeats 400000 in
theorem log_ready (p : Nat) (b : Bool) (w : World) (h : w.cell? ⟨p, 27, none⟩ = some (.bool b)) :
    Calls Tryd.prog 31 #[.pointer (some ⟨p, 0, none⟩)] w fun e w' => e = .returned (.int .i64 (if b then 6 else 0)) ∧ w = w' := by
  cases b
  · go_enter Tryd.func31, Tryd.ntmps31
    go_wp2_with fail
    refine (lost_in h).mono ?_
    rintro e w1 ⟨rfl, rfl⟩
    go_wp2
    go_ret
    exact ⟨rfl, rfl⟩
  · go_enter Tryd.func31, Tryd.ntmps31
    go_wp2_with fail
    refine (lost_in h).mono ?_
    rintro e w1 ⟨rfl, rfl⟩
    go_wp2
    go_ret
    exact ⟨rfl, rfl⟩

/-- What has been found behind k files: the file, and its number. -/
def cnt (g1 g2 : Nat) : Nat → Nat × Nat
  | 0 => (0, 0)
  | 1 => (if 0 < g1 then 1 else 0, g1)
  | _ => (if g1 < g2 then 2 else if 0 < g1 then 1 else 0, max g1 g2)
theorem cnt_end (b1 b2 : List UInt8) : (cnt (genOf b1) (genOf b2) 2).1 = counts b1 b2 := rfl

set_option maxHeartbeats 4000000 in
theorem counting_in {w : World} {p : Nat} {S : Nat → Prop} {V : Nat → Value} {D : DM} (h : DiskAt w p S V D) (hH : HalvesAt w) (hl : D.lost = false) :
    Calls Tryd.prog 32 #[.pointer (some ⟨p, 0, none⟩)] w fun e w' => e = .returned (.int .i64 (counts (D.f 1).b (D.f 2).b : Int)) ∧ Below w.heap.size w w' := by
  have HH := Lib.hid hH
  have HD := Lib.hid h
  have HL := Lib.hid hl
  rw [← cnt_end]
  clear h hH hl
  obtain ⟨g1, hg1⟩ : ∃ g1, genOf (D.f 1).b = g1 := ⟨_, rfl⟩
  obtain ⟨g2, hg2⟩ : ∃ g2, genOf (D.f 2).b = g2 := ⟨_, rfl⟩
  rw [hg1, hg2]
  have HG1 := Lib.hid hg1
  have HG2 := Lib.hid hg2
  clear hg1 hg2
  go_enter Tryd.func32, Tryd.ntmps32
  go_wp2
  go_loopw [3, 4, 15] (fun f m i wr => ∃ k : Nat, k ≤ 2 ∧ i = .int .i64 k ∧ f = .int .i64 ((cnt g1 g2 k).1 : Int) ∧ m = .int .i64 ((cnt g1 g2 k).2 : Int) ∧ Below w.heap.size w wr) (fun _ _ i _ => 2 - (intOf i).toNat)
  case atStart => exact ⟨0, by omega, rfl, rfl, rfl, Below.refl _ _⟩
  case round =>
    obtain ⟨k, hk, rfl, rfl, rfl, hB⟩ := hrel
    have hb0 : Hid (counts (D.f 1).b (D.f 2).b = counts (D.f 1).b (D.f 2).b) := rfl
    by_cases hk2 : k = 2
    · subst hk2
      go_wp2
      go_ret
      exact ⟨rfl, hB⟩
    · have hk3 : k = 0 ∨ k = 1 := by omega
      rcases hk3 with rfl | rfl
      · have hd := HD.out.below hB
        have hHr := HH.out.below hB
        have HR := Lib.hid (read_all hd 1 (by omega) HL.out)
        have hix : ∀ W : World, (Instr.index 90 (.agg #[.int .i64 1, .int .i64 2]) (.int .i64 0)).run Tryd.prog W = .ok (.int .i64 1) W := fun _ => by kernel_rfl
        clear hd
        go_wp2_with fail
        refine HR.out.mono ?_
        rintro e w1 ⟨⟨a, n, c, er1, rfl, -, -, hn, hy, hnc1, hcm, hnil, -⟩, b1⟩
        have HF := Lib.hid (first_one a (D.f 1).b n c w1 (hHr.below b1) hn hy hnil hnc1 hcm)
        clear hn hy
        go_wp2_with fail
        refine HF.out.mono ?_
        rintro e w2 ⟨⟨ad, m, cc, q, er, rfl, hm, hx, hnil2⟩, b2⟩
        have HI := Lib.hid (head_in ad (headOf (D.f 1).b) m cc w2 hm hx hnil2 (by rw [← hm]; exact headOf_len _))
        rw [headOf_gen, HG1.out] at HI
        clear hm hx
        go_wp2_with fail
        refine HI.out.mono ?_
        rintro e w3 ⟨⟨a3, c3, rfl, -⟩, b3⟩
        have B3 := hB.trans ((b1.trans ((b2.trans (b3.mono b2.size)).mono b1.size)).mono hB.size)
        by_cases hg : 0 < g1
        · have hgi : (0 : Int) < (g1 : Int) := by omega
          go_wp2
          go_roundw
          case rel => exact ⟨1, by omega, rfl, by simp [cnt, hg], by simp [cnt], B3⟩
          case measure => simp [intOf]
        · obtain rfl : g1 = 0 := by omega
          go_wp2
          go_roundw
          case rel => exact ⟨1, by omega, rfl, by simp [cnt], by simp [cnt], B3⟩
          case measure => simp [intOf]
      · have hd := HD.out.below hB
        have hHr := HH.out.below hB
        have HR := Lib.hid (read_all hd 2 (by omega) HL.out)
        have hix : ∀ W : World, (Instr.index 90 (.agg #[.int .i64 1, .int .i64 2]) (.int .i64 1)).run Tryd.prog W = .ok (.int .i64 2) W := fun _ => by kernel_rfl
        clear hd
        go_wp2_with fail
        refine HR.out.mono ?_
        rintro e w1 ⟨⟨a, n, c, er1, rfl, -, -, hn, hy, hnc1, hcm, hnil, -⟩, b1⟩
        have HF := Lib.hid (first_one a (D.f 2).b n c w1 (hHr.below b1) hn hy hnil hnc1 hcm)
        clear hn hy
        go_wp2_with fail
        refine HF.out.mono ?_
        rintro e w2 ⟨⟨ad, m, cc, q, er, rfl, hm, hx, hnil2⟩, b2⟩
        have HI := Lib.hid (head_in ad (headOf (D.f 2).b) m cc w2 hm hx hnil2 (by rw [← hm]; exact headOf_len _))
        rw [headOf_gen, HG2.out] at HI
        clear hm hx
        go_wp2_with fail
        refine HI.out.mono ?_
        rintro e w3 ⟨⟨a3, c3, rfl, -⟩, b3⟩
        have B3 := hB.trans ((b1.trans ((b2.trans (b3.mono b2.size)).mono b1.size)).mono hB.size)
        have hc1 : (cnt g1 g2 1).2 = g1 := rfl
        rw [hc1]
        by_cases hg : g1 < g2
        · have hgi : (g1 : Int) < (g2 : Int) := by omega
          go_wp2
          go_roundw
          case rel => exact ⟨2, by omega, rfl, by simp [cnt, hg], by simp [cnt]; omega, B3⟩
          case measure => simp [intOf]
        · have hgi : ¬ (g1 : Int) < (g2 : Int) := by omega
          go_wp2
          go_roundw
          case rel => exact ⟨2, by omega, rfl, by simp [cnt, hg], by simp [cnt]; omega, B3⟩
          case measure => simp [intOf]
end Go.Proofs.YteipcbpkgpffjaaDoor
