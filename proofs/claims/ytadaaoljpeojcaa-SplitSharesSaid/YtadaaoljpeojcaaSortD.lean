/-
  The library's stable sort, a merge where one row has one member. Conditions: those of the theorems.
-/
import Derived.Test.YtadaaoljpeojcaaSortC
namespace Go.Proofs.Ytadaaoljpeojcaa
open Go.RowKit Go.Sort
set_option maxRecDepth 100000
variable {α : Type} [Inhabited α]

def Merged (v : α → Int) (lx : α → α → Bool) (w0 : World) (blk off a b : Nat) (d0 d : Array α) (w' : World) : Prop := ∃ d', PermIn a b d d' ∧ SortedIn lx a b d' ∧ St v w0 blk off d0 d' w'
/-- What an index i is that a search has come to, from the left and from the right. -/
def Lo (lx : α → α → Bool) (d : Array α) (a m i : Nat) : Prop := i = m ∨ lx d[i - 1]! d[a]! = true
def Hi (lx : α → α → Bool) (d : Array α) (a b j : Nat) : Prop := j = b ∨ lx d[j]! d[a]! = false

set_option maxHeartbeats 2000000 in
theorem sort_merge1 (v : α → Int) (cf : α → α → Int) (lx : α → α → Bool) (tie : α → α → Prop) (T : Two (less cf) lx tie) (g : Nat) (cb : Array Value) (w0 w : World) (blk off cap a m b sz : Nat) (d0 d : Array α) (S : St v w0 blk off d0 d w)
    (eg : ∀ args w, (callFunc g args).run Try.prog w = .ok (.enter g args) w) (hC : Cmp Try.prog g cb v cf w0 blk off d0)
    (hz : d.size = sz) (ham : m = a + 1) (hmb : m < b) (hb : b ≤ sz) (hsz : sz < 4611686018427387904) (h2 : SortedIn lx m b d) (ht : Tie tie a m b d) :
    Calls Try.prog 37 #[.slice (some ⟨blk, off, none⟩) sz cap, .int .i64 a, .int .i64 m, .int .i64 b, .func (.func g) #[] cb] w fun e w' => e = .returned (.tuple #[]) ∧ Merged v lx w0 blk off a b d0 d w' := by
  have S0 : Aside (St v w0 blk off d0 d w) := S
  have HC : Aside (Cmp Try.prog g cb v cf w0 blk off d0) := hC
  have HZ := Lib.hid hz
  have H2 : Aside (SortedIn lx m b d) := h2
  have HT : Aside (Tie tie a m b d) := ht
  have HM := Lib.hid ham
  have h1 : (m : Int) - (a : Int) = 1 := by omega
  have ham' : a < m := by omega
  clear S hz hC h2 ht ham
  go_enter Try.func37, Try.ntmps37
  go_wp2
  clear h1
  go_loopw [10, 11] (fun vi vj wr => ∃ (i j : Nat), vi = .int .i64 i ∧ vj = .int .i64 j ∧ m ≤ i ∧ i ≤ j ∧ j ≤ b ∧ Aside (Lo lx d a m i) ∧ Aside (Hi lx d a b j) ∧ Aside (St v w0 blk off d0 d wr)) (fun vi vj _ => (intOf vj).toNat - (intOf vi).toNat)
  case atStart => exact ⟨m, b, rfl, rfl, Nat.le_refl _, by omega, Nat.le_refl _, .inl rfl, .inl rfl, S0.out⟩
  case round =>
    clear S0
    obtain ⟨i, j, rfl, rfl, hmi, hij, hjb, LO, HI, SK⟩ := hrel
    by_cases hlt : i < j
    · have hlt' : (i : Int) < (j : Int) := by omega
      obtain ⟨h, hh⟩ : ∃ h, h = (i + j) / 2 := ⟨_, rfl⟩
      have hhi : i ≤ h := by omega
      have hhj : h < j := by omega
      have e2 : ((i : Int) + (j : Int)) / 2 = (h : Int) := by omega
      have HH := Lib.hid hh
      have E2 := Lib.hid e2
      clear hh e2
      go_wp2
      rw [E2.out]
      obtain ⟨x, hx⟩ : ∃ x, x = d[h]! := ⟨_, rfl⟩
      obtain ⟨y, hy⟩ : ∃ y, y = d[a]! := ⟨_, rfl⟩
      have hk := HZ.out
      have hcx := SK.out.cell h (by omega)
      have hcy := SK.out.cell a (by omega)
      rw [← hx] at hcx
      rw [← hy] at hcy
      have hcc := fun n => HC.out d (wr.drewN n) (SK.out.drewN n) x y
      have hle : less cf x y = lx x y := T.late _ _ (by rw [hx, hy]; exact HT.out a h (Nat.le_refl _) (by omega) (by omega) (by omega))
      have HX := Lib.hid hx
      have HY := Lib.hid hy
      have HLE := Lib.hid hle
      have jz : (h : Int) < (sz : Int) := by omega
      have jz1 : (a : Int) < (sz : Int) := by omega
      clear hx hy hk hle
      by_cases hl : cf x y < 0
      · have HL : Hid (less cf x y = true) := decide_eq_true hl
        go_wp2_with fail
        go_quiet (refine Calls.quiet_of (hcc _))
        have SJ2 : Aside (St v w0 blk off d0 d (wr.drewN nq)) := SK.out.drewN nq
        clear hcx hcy hcc SK
        generalize wr.drewN nq = w2 at SJ2 ⊢
        go_wp2
        go_roundw
        case rel =>
          refine ⟨h + 1, j, by go_num, rfl, by omega, by omega, hjb, ?_, HI.out, SJ2.out⟩
          show Lo _ _ _ _ _
          refine .inr ?_
          rw [Nat.add_sub_cancel, ← HX.out, ← HY.out, ← HLE.out]
          exact HL.out
        case measure => simp [intOf]; omega
      · have HL : Hid (less cf x y = false) := decide_eq_false hl
        have hl' : decide (cf x y < 0) = false := decide_eq_false hl
        go_wp2_with fail
        go_quiet (refine Calls.quiet_of (hcc _))
        have SJ2 : Aside (St v w0 blk off d0 d (wr.drewN nq)) := SK.out.drewN nq
        clear hcx hcy hcc SK
        generalize wr.drewN nq = w2 at SJ2 ⊢
        go_wp2
        go_roundw
        case rel =>
          refine ⟨i, h, rfl, rfl, hmi, hhi, by omega, LO.out, ?_, SJ2.out⟩
          show Hi _ _ _ _ _
          refine .inr ?_
          rw [← HX.out, ← HY.out, ← HLE.out]
          exact HL.out
        case measure => simp [intOf]; omega
    · obtain rfl : i = j := by omega
      go_wp2
      go_loopw [13] (fun vk wr => ∃ (k : Nat) (dk : Array α), vk = .int .i64 k ∧ a ≤ k ∧ k + 1 ≤ i ∧ Hid (dk.size = sz) ∧ Aside (Rot a (a + 1) (k + 1) d dk) ∧ Aside (St v w0 blk off d0 dk wr)) (fun vk _ => i - (intOf vk).toNat)
      case atStart => exact ⟨a, d, rfl, Nat.le_refl _, by omega, HZ.out, Rot.noRight a (a + 1) d, SK.out⟩
      case round =>
        clear SK
        obtain ⟨k, dk, rfl, hak, hki, HK, RK, SK⟩ := hrel
        by_cases hlt2 : k + 1 < i
        · have hlt3 : (k : Int) < (i : Int) - 1 := by omega
          obtain ⟨G, hG⟩ : ∃ G : Nat → Int, ∀ t, G t = v dk[t]! := ⟨fun t => v dk[t]!, fun _ => rfl⟩
          have hk := HK.out
          have hcw : ∀ t, t < sz → wr.cell? ⟨blk, off + t, none⟩ = some (.int .i64 (G t)) := fun t ht => by rw [hG]; exact SK.out.cell t (by omega)
          have hfw : ∀ t, t < sz → wr.frozen? ⟨blk, off + t, none⟩ = false := fun t ht => SK.out.soft t (by omega)
          have HG := Lib.hid hG
          clear hk hG
          go_wp2
          go_region
          all_goals go_wp2
          go_roundw
          case rel =>
            refine ⟨k + 1, swp dk k (k + 1), by go_num, by omega, by omega, ?_, ?_, ?_⟩
            · show _ = _
              rw [size_swp]; exact HK.out
            · exact RK.out.stepRight hak (by have := HZ.out; omega)
            · have := SK.out.swapped k (k + 1) (by have := HK.out; omega) (by have := HK.out; omega)
              rw [← HG.out, ← HG.out] at this
              exact this
          case measure => simp [intOf]; omega
        · obtain rfl : i = k + 1 := by omega
          have hlt3 : ¬ (k : Int) < ((k + 1 : Nat) : Int) - 1 := by omega
          go_wp2
          (try simp only [Exit.inBlock, Exit.then])
          refine bodyPost_ret (results_none rfl _ _ _) rfl ?_
          have hm := HM.out
          have hz := HZ.out
          subst hm
          exact ⟨rfl, dk, permIn_mono _ _ _ _ _ _ (Nat.le_refl _) hjb (by omega) (RK.out.perm (by omega) (by omega) (by omega)), one_right T.swo H2.out RK.out hmi hjb LO.out HI.out, SK.out⟩
end Go.Proofs.Ytadaaoljpeojcaa
