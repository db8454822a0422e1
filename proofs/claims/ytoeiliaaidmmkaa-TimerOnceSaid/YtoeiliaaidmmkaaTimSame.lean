/-
  The laws of layer 12: same, of timers and the model that has the same. Conditions: those of each theorem.
-/
import Derived.Test.YtoeiliaaidmmkaaTimLaw
namespace Go.Proofs.Ytoeiliaaidmmkaa
open Go.RowKit
set_option maxRecDepth 100000

theorem TRow.at_ {w : World} {a : Option Addr} {xs : List Tm} (h : TRow w a xs) (hn : 0 < xs.length) : ∃ b o, a = some ⟨b, o, none⟩ ∧ b < w.heap.size ∧ ∀ i, i < xs.length → w.cell? ⟨b, o + i * 2, none⟩ = some (.int .i64 (tget xs i).1) ∧ w.cell? ⟨b, o + i * 2 + 1, none⟩ = some (.int .i64 (tget xs i).2) := by
  rcases h with h | h
  · rw [h] at hn; exact absurd hn (Nat.lt_irrefl 0)
  · exact h
theorem TimSt.first {w : World} {p : Nat} {S : Nat → Prop} {xs ms : List Tm} (h : TimSt w p S xs) (hs : Srt ms) (hp : ms.Perm xs) (hn : 0 < ms.length) : tget xs 0 = tget ms 0 := by
  match ms, hn with
  | x :: zs, _ => exact first_is h.2.2.1 hs hp.symm
/-- A number of the model's is one of the timers', with the same day. -/
theorem same_day {w : World} {p : Nat} {S : Nat → Prop} {xs ms : List Tm} (h : TimSt w p S xs) (hp : ms.Perm xs) {i : Nat} (hi : i < ms.length) : Calls Try.prog 14 #[.pointer (some ⟨p, 0, none⟩), .int .i64 (tget ms i).2] w fun e w' => e = .returned (.tuple #[.int .i64 (tget ms i).1, .bool true]) ∧ w = w' := by
  obtain ⟨j, hj, e⟩ := mem_tget.1 (hp.mem_iff.1 (mem_tget.2 ⟨i, hi, rfl⟩))
  rw [← e]
  exact tim_day h hj

set_option maxHeartbeats 4000000 in
theorem tim_same {w : World} {p n c : Nat} {S : Nat → Prop} {a : Option Addr} {xs ms : List Tm} (h : TimSt w p S xs) (hs : Srt ms) (hp : ms.Perm xs) (hr : TRow w a ms) (hn : ms.length = n) :
    Calls Try.prog 13 #[.pointer (some ⟨p, 0, none⟩), .slice a n c] w fun e w' => e = .returned (.bool true) ∧ Below w.heap.size w w' := by
  subst hn
  have hf := h.few
  have hl := hp.length_eq
  have HT : Aside (TimSt w p S xs) := h
  have HR : Aside (TRow w a ms) := hr
  have HP : Aside (ms.Perm xs) := hp
  have HAL : Aside _ := tim_all h hs hp
  have HS : Aside (Srt ms) := hs
  clear h hr hp hs
  by_cases h0 : ms.length = 0
  · have hx0 : xs = [] := List.length_eq_zero_iff.1 (by omega)
    go_enter Try.func13, Try.ntmps13
    go_wp2_with fail
    refine Calls.mono HAL.out ?_
    rintro e w1 ⟨a1, c1, rfl, r1, b1⟩
    have H1 : Aside (TimSt w1 p S xs) := HT.out.below b1
    have HB : Aside (Below w.heap.size w w1) := b1
    have HL : Aside _ := tim_len H1.out
    have HN : Aside _ := tim_next_none (p := p) (S := S) (w := w1) (by rw [← hx0]; exact H1.out)
    rw [← hl] at HL
    rw [h0] at HL ⊢
    clear r1 b1 HAL
    go_wp2_with fail
    refine Calls.mono HN.out ?_
    rintro e w2 ⟨rfl, rfl⟩
    go_wp2_with fail
    refine Calls.mono HL.out ?_
    rintro e w2 ⟨rfl, rfl⟩
    go_wp2
    refine wp_loop_rounds 1 ?_
    rw [rounds_succ]
    go_wp2
    go_ret
    exact ⟨rfl, HB.out⟩
  · have hpos : 0 < ms.length := by omega
    have hpz : (0 : Int) < (ms.length : Int) := by omega
    obtain ⟨b, o, rfl, hbl, hcells⟩ := HR.out.at_ hpos
    have hfst := HT.out.first HS.out HP.out hpos
    go_enter Try.func13, Try.ntmps13
    go_wp2_with fail
    refine Calls.mono HAL.out ?_
    rintro e w1 ⟨a1, c1, rfl, r1, b1⟩
    have H1 : Aside (TimSt w1 p S xs) := HT.out.below b1
    have HB : Aside (Below w.heap.size w w1) := b1
    have HNX : Aside (Calls Try.prog 17 #[.pointer (some ⟨p, 0, none⟩)] w1 fun e w' => e = .returned (.tuple #[.int .i64 (tget ms 0).1, .bool true]) ∧ Below w1.heap.size w1 w') := by
      rw [← hfst]
      exact tim_next H1.out (by omega)
    have R1 : Aside (TRow w1 a1 ms) := r1
    have HCL : Aside (∀ i, i < ms.length → w.cell? ⟨b, o + i * 2, none⟩ = some (.int .i64 (tget ms i).1) ∧ w.cell? ⟨b, o + i * 2 + 1, none⟩ = some (.int .i64 (tget ms i).2)) := hcells
    clear r1 b1 HAL hcells hfst
    go_wp2_with fail
    refine Calls.mono HNX.out ?_
    rintro e w2 ⟨rfl, b2⟩
    have HB2 : Aside (Below w.heap.size w w2) := HB.out.trans (b2.mono HB.out.size)
    have HL : Aside _ := tim_len (H1.out.below b2)
    have R2 : Aside (TRow w2 a1 ms) := R1.out.below b2
    have H2 : Aside (TimSt w2 p S xs) := H1.out.below b2
    rw [← hl] at HL
    have z0 := (HB2.out.cell (p := ⟨b, o + 0 * 2, none⟩) hbl).trans (HCL.out 0 hpos).1
    rw [Nat.zero_mul, Nat.add_zero] at z0
    clear b2 HNX R1 H1 HB
    go_wp2_with fail
    refine Calls.mono HL.out ?_
    rintro e w3 ⟨rfl, rfl⟩
    go_wp2
    go_loopw [50] (fun s wr => ∃ k : Nat, k ≤ ms.length ∧ s = .int .i64 k ∧ Aside (Below w2.heap.size w2 wr)) (fun s _ => ms.length - (intOf s).toNat)
    case atStart => exact ⟨0, Nat.zero_le _, rfl, Below.refl _ _⟩
    case round =>
      obtain ⟨k, hk, rfl, HW⟩ := hrel
      by_cases hlt : k < ms.length
      · have hkz : (k : Int) < (ms.length : Int) := by omega
        obtain ⟨b1, o1, rfl, hb1, hc1⟩ := (R2.out.below HW.out).at_ hpos
        obtain ⟨l0, l1⟩ := hc1 k hlt
        have m0 := ((HB2.out.trans (HW.out.mono HB2.out.size)).cell (p := ⟨b, o + k * 2, none⟩) hbl).trans (HCL.out k hlt).1
        have m1 := ((HB2.out.trans (HW.out.mono HB2.out.size)).cell (p := ⟨b, o + k * 2 + 1, none⟩) hbl).trans (HCL.out k hlt).2
        have HDAY : Aside _ := same_day (H2.out.below HW.out) HP.out hlt
        have heq := tm_self 9998 (tget ms k)
        clear hc1 z0
        generalize tget ms k = x at *
        obtain ⟨d, q⟩ := x
        dsimp only at *
        go_wp2_with fail
        refine Calls.mono HDAY.out ?_
        rintro e w4 ⟨rfl, rfl⟩
        go_wp2_with fail
        go_quiet (fail)
        go_wp2
        go_roundw
        case rel => exact ⟨k + 1, by omega, by go_num, HW.out.trans ⟨rfl, rfl, rfl, Nat.le_refl _, fun _ _ => rfl⟩⟩
        case measure => simp [intOf]; omega
      · obtain rfl : k = ms.length := by omega
        have HF : Aside (Below w.heap.size w wr) := HB2.out.trans (HW.out.mono HB2.out.size)
        clear HCL HW z0
        go_wp2
        go_ret
        exact ⟨rfl, HF.out⟩
end Go.Proofs.Ytoeiliaaidmmkaa
