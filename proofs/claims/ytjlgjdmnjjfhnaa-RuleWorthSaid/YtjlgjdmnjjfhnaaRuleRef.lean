/-
  The document's May and Worth: recoupref05. Conditions: those of each theorem.
-/
import Derived.Test.YtjlgjdmnjjfhnaaRule
import Derived.Test.YtjlgjdmnjjfhnaaMoneyDiv
namespace Go.Proofs.Ytjlgjdmnjjfhnaa
open Go.RowKit
set_option maxRecDepth 100000

set_option maxHeartbeats 2000000 in
theorem ref_may (p : Pol) (d : Int) (wants : Bool) (w : World) : Calls Try.prog 9 #[.agg p.arr, .int .i64 d, .bool wants] w fun e w' => e = .returned (.int .i64 (mayE p d wants)) ∧ Below w.heap.size w w' := by
  have hp := pol_new w p 27
  have HB : Aside (Below w.heap.size w (w.alloc (.cells p.arr 27))) := (Below.refl _ _).alloc (Nat.le_refl _) _
  have hall := hp.all
  simp only [Nat.zero_add] at hall
  obtain ⟨z0, z1, z2, z3, z4, z5, z6, z7, z8, z9, za, zb, zc, zd, ze, zf⟩ := hall
  have HM : Hid (mayE p d wants = if rightP p then (if p.fin || p.exc && !wants then 12 else if decide (0 ≤ d ∧ d ≤ p.win) then 0 else 11) else 10) := rfl
  generalize mayE p d wants = E at *
  have HR : Aside (∀ W, _) := ref_rightPolicy p
  clear hp
  go_enter Try.func9, Try.ntmps9
  go_upto_region 1 with (fail)
  show Code.wp _ _ _ _ (w.alloc (.cells p.arr 27))
  generalize w.alloc (.cells p.arr 27) = w1 at *
  have hw1 : ∀ (o : Nat) (v : Value) (w' : World), w1.cell? ⟨w.heap.size, o, none⟩ = some v → Below w1.heap.size w1 w' → w'.cell? ⟨w.heap.size, o, none⟩ = some v := fun o v w' h hb => (hb.cell (p := ⟨w.heap.size, o, none⟩) (World.block_lt_of_cell? _ _ h)).trans h
  have HW := Lib.hid hw1
  clear hw1
  go_wp2_with fail
  refine Calls.mono (HR.out _) ?_
  rintro e w2 ⟨rfl, b2⟩
  have y0 := HW.out _ _ _ z0 b2
  have y1 := HW.out _ _ _ z1 b2
  have y2 := HW.out _ _ _ z2 b2
  have HB2 : Aside _ := HB.out.trans (b2.mono HB.out.size)
  clear z0 z1 z2 z3 z4 z5 z6 z7 z8 z9 za zb zc zd ze zf HR HW b2
  generalize p.fin = f1 at *
  generalize p.exc = f2 at *
  generalize p.win = v at *
  generalize rightP p = q at *
  cases q with
  | false =>
    obtain rfl : E = 10 := HM.out
    go_wp2
    go_ret
    exact ⟨rfl, HB2.out⟩
  | true =>
    cases hq : (f1 || f2 && !wants) with
    | true =>
      have hE := HM.out
      rw [hq] at hE
      obtain rfl : E = 12 := hE
      clear HM
      cases f1 <;> cases f2 <;> cases wants <;> first | (exfalso; revert hq; decide) | (clear hq; go_wp2; go_ret; exact ⟨rfl, HB2.out⟩)
    | false =>
      have hE := HM.out
      rw [hq] at hE
      clear HM
      by_cases h1 : 0 ≤ d
      · by_cases h2 : d ≤ v
        · rw [decide_eq_true ⟨h1, h2⟩] at hE
          obtain rfl : E = 0 := hE
          cases f1 <;> cases f2 <;> cases wants <;> first | (exfalso; revert hq; decide) | (clear hq; go_wp2; go_ret; exact ⟨rfl, HB2.out⟩)
        · rw [decide_eq_false (fun h => h2 h.2)] at hE
          obtain rfl : E = 11 := hE
          cases f1 <;> cases f2 <;> cases wants <;> first | (exfalso; revert hq; decide) | (clear hq; go_wp2; go_ret; exact ⟨rfl, HB2.out⟩)
      · rw [decide_eq_false (fun h => h1 h.1)] at hE
        obtain rfl : E = 11 := hE
        cases f1 <;> cases f2 <;> cases wants <;> first | (exfalso; revert hq; decide) | (clear hq; go_wp2; go_ret; exact ⟨rfl, HB2.out⟩)

set_option maxHeartbeats 2000000 in
theorem ref_worth (p : Pol) (hp : RightP p) (s : Int) (hs : sumB s = true) (r g : Nat) (hr : r < 4) (hg : g < 4) (w : World) :
    Calls Try.prog 15 #[.agg p.arr, .int .i64 s, .int .i64 r, .int .i64 g] w fun e w' => e = .returned (.int .i64 (worthOf p s r g)) ∧ Below w.heap.size w w' := by
  have hpo := pol_new w p 27
  have HB : Aside (Below w.heap.size w (w.alloc (.cells p.arr 27))) := (Below.refl _ _).alloc (Nat.le_refl _) _
  have c1 := hpo.fee r hr
  have c2 := hpo.share g hg
  have ho : I64 (10000 : Int) := ⟨by decide, by decide⟩
  have hsh := hp.share g hg
  have hfe := hp.fee r hr
  have HP1 : Aside (∀ W, _) := ref_part s (p.share g) 10000 ⟨by omega, by omega⟩ ho
  have HP2 : Aside (∀ W, _) := ref_part (partV s (p.share g) 10000) (p.fee r) 10000 ⟨by omega, by omega⟩ ho
  have hb := worth_bounds hp hs hr hg
  have hb2 := of_decide_eq_true hb.2.2
  have hb3 := of_decide_eq_true hs
  have HWo : Hid (worthOf p s r g = partV s (p.share g) 10000 - partV (partV s (p.share g) 10000) (p.fee r) 10000) := rfl
  have hgi : (g : Int) < 4 := by omega
  have hri : (r : Int) < 4 := by omega
  have hsw : IntKind.i64.wrap (p.share g) = p.share g := by rw [IntKind.wrap_i64]; omega
  have hfw : IntKind.i64.wrap (p.fee r) = p.fee r := by rw [IntKind.wrap_i64]; omega
  have hbw : 0 ≤ worthOf p s r g ∧ worthOf p s r g ≤ s := ⟨hb.1, hb.2.1⟩
  have hsub : wrap64 (partV s (p.share g) 10000 - partV (partV s (p.share g) 10000) (p.fee r) 10000) = worthOf p s r g := by
    rw [← HWo.out]; unfold wrap64; omega
  have HS := Lib.hid hsub
  clear hpo hp hs hb hsh hfe HWo hsub
  generalize worthOf p s r g = W0 at *
  generalize partV (partV s (p.share g) 10000) (p.fee r) 10000 = v2 at *
  generalize partE (partV s (p.share g) 10000) (p.fee r) 10000 = e2 at *
  generalize partV s (p.share g) 10000 = v1 at *
  generalize partE s (p.share g) 10000 = e1 at *
  go_enter Try.func15, Try.ntmps15
  go_upto_region 1 with (fail)
  show Code.wp _ _ _ _ (w.alloc (.cells p.arr 27))
  generalize w.alloc (.cells p.arr 27) = w1 at *
  go_wp2_with fail
  refine Calls.mono (HP1.out _) ?_
  rintro e w2 ⟨rfl, rfl⟩
  go_wp2_with fail
  refine Calls.mono (HP2.out _) ?_
  rintro e w2 ⟨rfl, rfl⟩
  go_wp2
  go_ret
  exact ⟨by rw [← HS.out]; rfl, HB.out⟩
end Go.Proofs.Ytjlgjdmnjjfhnaa
