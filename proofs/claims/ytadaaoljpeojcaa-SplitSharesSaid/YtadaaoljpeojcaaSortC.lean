/-
  The library's stable sort, an insertion: it is the plain one. Conditions: those of the theorem.
-/
import Derived.Test.YtadaaoljpeojcaaSortA
import Derived.Sort.WalkA
namespace Go.Proofs.Ytadaaoljpeojcaa
open Go.RowKit Go.Sort
set_option maxRecDepth 100000
variable {α : Type} [Inhabited α]

/-- What is asked of a comparison, at whatever the row holds. -/
def Cmp (P : Program) (g : Nat) (cb : Array Value) (v : α → Int) (cf : α → α → Int) (w0 : World) (blk off : Nat) (d0 : Array α) : Prop :=
  ∀ (d : Array α) (W : World), St v w0 blk off d0 d W → ∀ x y : α, Calls P g (#[.int .i64 (v x), .int .i64 (v y)] ++ cb) W fun e w' => e = .returned (.int .i64 (cf x y)) ∧ ∃ q, w' = W.drewN q
def less (cf : α → α → Int) (x y : α) : Bool := decide (cf x y < 0)

def Inserted (v : α → Int) (cf : α → α → Int) (w0 : World) (blk off a b : Nat) (d0 d : Array α) (w' : World) : Prop := St v w0 blk off d0 (insertionSort (less cf) d a b) w'

set_option maxHeartbeats 2000000 in
theorem sort_insert (v : α → Int) (cf : α → α → Int) (g : Nat) (cb : Array Value) (w0 w : World) (blk off cap a b sz : Nat) (d0 d : Array α) (S : St v w0 blk off d0 d w)
    (eg : ∀ args w, (callFunc g args).run Try.prog w = .ok (.enter g args) w) (hC : Cmp Try.prog g cb v cf w0 blk off d0)
    (hz : d.size = sz) (hab : a ≤ b) (hb : b ≤ sz) (hsz : sz < 4611686018427387904) :
    Calls Try.prog 36 #[.slice (some ⟨blk, off, none⟩) sz cap, .int .i64 a, .int .i64 b, .func (.func g) #[] cb] w fun e w' => e = .returned (.tuple #[]) ∧ Inserted v cf w0 blk off a b d0 d w' := by
  have S0 : Aside (St v w0 blk off d0 d w) := S
  have HC : Aside (Cmp Try.prog g cb v cf w0 blk off d0) := hC
  have HZ := Lib.hid hz
  clear S hz hC
  go_enter Try.func36, Try.ntmps36
  go_wp2
  go_loopw [8] (fun vi wr => ∃ (i : Nat) (dk : Array α), vi = .int .i64 i ∧ a < i ∧ i ≤ b + 1 ∧ Hid (dk.size = sz) ∧ Hid (insOuter (less cf) a b i dk = insOuter (less cf) a b (a + 1) d) ∧ Aside (St v w0 blk off d0 dk wr)) (fun vi _ => b + 1 - (intOf vi).toNat)
  case atStart => exact ⟨a + 1, d, by go_num, by omega, by omega, HZ.out, rfl, S0.out⟩
  case round =>
    clear S0
    obtain ⟨i, dk, rfl, hai, hib, HK, HO, SK⟩ := hrel
    by_cases hlt : i < b
    · have hlt' : (i : Int) < (b : Int) := by omega
      go_wp2
      go_loopw [9] (fun vj wr2 => ∃ (j : Nat) (dj : Array α), vj = .int .i64 j ∧ a ≤ j ∧ j ≤ i ∧ Hid (dj.size = sz) ∧ Hid (insInner (less cf) a j dj = insInner (less cf) a i dk) ∧ Aside (St v w0 blk off d0 dj wr2)) (fun vj _ => (intOf vj).toNat)
      case atStart => exact ⟨i, dk, rfl, by omega, Nat.le_refl _, HK.out, rfl, SK.out⟩
      case round =>
        clear SK
        obtain ⟨j, dj, rfl, haj, hji, HJ, HI, SJ⟩ := hrel
        have OUT : Aside ((j ≤ a ∨ less cf dj[j]! dj[j - 1]! = false) → insOuter (less cf) a b (i + 1) dj = insOuter (less cf) a b (a + 1) d) := fun hs => by
          rw [← HO.out, insOuter_go _ _ _ _ _ hlt, ← HI.out, insInner_stop _ _ _ _ hs]
        by_cases hja : a < j
        · have hja' : (a : Int) < (j : Int) := by omega
          obtain ⟨jp, rfl⟩ : ∃ jp, j = jp + 1 := ⟨j - 1, by omega⟩
          have hjb : jp + 1 < sz := by omega
          obtain ⟨x, hx⟩ : ∃ x, x = dj[jp + 1]! := ⟨_, rfl⟩
          obtain ⟨y, hy⟩ : ∃ y, y = dj[jp]! := ⟨_, rfl⟩
          have hk := HJ.out
          have hcx := SJ.out.cell (jp + 1) (by omega)
          have hcy := SJ.out.cell jp (by omega)
          have hfx := SJ.out.soft (jp + 1) (by omega)
          have hfy := SJ.out.soft jp (by omega)
          rw [← hx] at hcx
          rw [← hy] at hcy
          have HX := Lib.hid hx
          have HY := Lib.hid hy
          have hcc := fun n => HC.out dj (wr.drewN n) (SJ.out.drewN n) x y
          have jz : (jp : Int) + 1 < (sz : Int) := by omega
          have jz1 : (jp : Int) < (sz : Int) := by omega
          have hja2 : (a : Int) < (jp : Int) + 1 := by omega
          have e0 : ((jp : Int) + 1).toNat = jp + 1 := by omega
          have p0 : (0 : Int) ≤ (jp : Int) + 1 := by omega
          have w1 : IntKind.i64.wrap (jp : Int) = (jp : Int) := by rw [IntKind.wrap_i64]; omega
          clear hx hy hk
          by_cases hl : cf x y < 0
          · have HL : Hid (less cf x y = true) := decide_eq_true hl
            go_wp2_with fail
            go_quiet (refine Calls.quiet_of (hcc _))
            have SJ2 : Aside (St v w0 blk off d0 dj (wr.drewN nq)) := SJ.out.drewN nq
            clear hcx hcy hfx hfy hcc SJ
            generalize wr.drewN nq = w2 at SJ2 ⊢
            obtain ⟨G, hG⟩ : ∃ G : Nat → Int, ∀ t, G t = v dj[t]! := ⟨fun t => v dj[t]!, fun _ => rfl⟩
            have hk := HJ.out
            have hcw : ∀ t, t < sz → w2.cell? ⟨blk, off + t, none⟩ = some (.int .i64 (G t)) := fun t ht => by rw [hG]; exact SJ2.out.cell t (by omega)
            have hfw : ∀ t, t < sz → w2.frozen? ⟨blk, off + t, none⟩ = false := fun t ht => SJ2.out.soft t (by omega)
            have HG := Lib.hid hG
            clear hk hG
            go_wp2_with fail
            go_region
            all_goals go_wp2
            go_roundw
            case rel =>
              refine ⟨jp, swp dj (jp + 1) jp, by first | rfl | go_num, by omega, by omega, ?_, ?_, ?_⟩
              · show _ = _
                rw [size_swp]; exact HJ.out
              · show _ = _
                have := insInner_go (less cf) a (jp + 1) dj hja (by simp only [Nat.add_sub_cancel]; rw [← HX.out, ← HY.out]; exact HL.out)
                simp only [Nat.add_sub_cancel] at this
                rw [← HI.out, this]
              · have := SJ2.out.swapped (jp + 1) jp (by have := HJ.out; omega) (by have := HJ.out; omega)
                rw [← HG.out, ← HG.out] at this
                exact this
            case measure => simp [intOf]
          · have HL : Hid (less cf x y = false) := decide_eq_false hl
            have hl' : decide (cf x y < 0) = false := decide_eq_false hl
            go_wp2_with fail
            go_quiet (refine Calls.quiet_of (hcc _))
            have SJ2 : Aside (St v w0 blk off d0 dj (wr.drewN nq)) := SJ.out.drewN nq
            clear hcx hcy hfx hfy hcc SJ
            generalize wr.drewN nq = w2 at SJ2 ⊢
            go_wp2
            go_roundw
            case rel =>
              refine ⟨i + 1, dj, by go_num, by omega, by omega, HJ.out, ?_, SJ2.out⟩
              show _ = _
              exact OUT.out (.inr (by simp only [Nat.add_sub_cancel]; rw [← HX.out, ← HY.out]; exact HL.out))
            case measure => simp [intOf]; omega
        · obtain rfl : j = a := by omega
          have hja' : decide ((j : Int) < (j : Int)) = false := decide_eq_false (by omega)
          have SJ1 := SJ
          go_wp2_with fail
          go_quiet (fail)
          have SJ2 : Aside (St v w0 blk off d0 dj (wr.drewN nq)) := SJ1.out.drewN nq
          clear SJ SJ1
          generalize wr.drewN nq = w2 at SJ2 ⊢
          go_wp2
          go_roundw
          case rel =>
            refine ⟨i + 1, dj, by go_num, by omega, by omega, HJ.out, ?_, SJ2.out⟩
            show _ = _
            exact OUT.out (.inl (Nat.le_refl _))
          case measure => simp [intOf]; omega
    · go_wp2
      go_end0
      refine ⟨rfl, ?_⟩
      show St _ _ _ _ _ _ _
      unfold Sort.insertionSort
      rw [← HO.out, insOuter_stop _ _ _ _ _ hlt]
      exact SK.out
end Go.Proofs.Ytadaaoljpeojcaa
