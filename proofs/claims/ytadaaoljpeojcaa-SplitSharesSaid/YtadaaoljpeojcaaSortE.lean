/-
  The library's stable sort, a merge where the second row has one member. Conditions: those of the theorem.
-/
import Derived.Test.YtadaaoljpeojcaaSortD
namespace Go.Proofs.Ytadaaoljpeojcaa
open Go.RowKit Go.Sort
set_option maxRecDepth 100000
variable {α : Type} [Inhabited α]

def Lo2 (lx : α → α → Bool) (d : Array α) (a m i : Nat) : Prop := i = a ∨ lx d[m]! d[i - 1]! = false
def Hi2 (lx : α → α → Bool) (d : Array α) (m j : Nat) : Prop := j = m ∨ lx d[m]! d[j]! = true

set_option maxHeartbeats 2000000 in
theorem sort_merge2 (v : α → Int) (cf : α → α → Int) (lx : α → α → Bool) (tie : α → α → Prop) (T : Two (less cf) lx tie) (g : Nat) (cb : Array Value) (w0 w : World) (blk off cap a m b sz : Nat) (d0 d : Array α) (S : St v w0 blk off d0 d w)
    (eg : ∀ args w, (callFunc g args).run Try.prog w = .ok (.enter g args) w) (hC : Cmp Try.prog g cb v cf w0 blk off d0)
    (hz : d.size = sz) (ham : a + 1 < m) (hmb : b = m + 1) (hb : b ≤ sz) (hsz : sz < 4611686018427387904) (h1 : SortedIn lx a m d) (ht : Tie tie a m b d) :
    Calls Try.prog 37 #[.slice (some ⟨blk, off, none⟩) sz cap, .int .i64 a, .int .i64 m, .int .i64 b, .func (.func g) #[] cb] w fun e w' => e = .returned (.tuple #[]) ∧ Merged v lx w0 blk off a b d0 d w' := by
  have S0 : Aside (St v w0 blk off d0 d w) := S
  have HC : Aside (Cmp Try.prog g cb v cf w0 blk off d0) := hC
  have HZ := Lib.hid hz
  have H1 : Aside (SortedIn lx a m d) := h1
  have HT : Aside (Tie tie a m b d) := ht
  have HM := Lib.hid hmb
  have h2 : (b : Int) - (m : Int) = 1 := by omega
  have h3 : ((m : Int) - (a : Int) == 1) = false := by simp; omega
  have h4 : ¬ (m : Int) - (a : Int) = 1 := by omega
  have hmb' : m < b := by omega
  clear S hz hC h1 ht hmb
  go_enter Try.func37, Try.ntmps37
  go_wp2
  clear h2 h3
  go_loopw [14, 15] (fun vi vj wr => ∃ (i j : Nat), vi = .int .i64 i ∧ vj = .int .i64 j ∧ a ≤ i ∧ i ≤ j ∧ j ≤ m ∧ Aside (Lo2 lx d a m i) ∧ Aside (Hi2 lx d m j) ∧ Aside (St v w0 blk off d0 d wr)) (fun vi vj _ => (intOf vj).toNat - (intOf vi).toNat)
  case atStart => exact ⟨a, m, rfl, rfl, Nat.le_refl _, by omega, Nat.le_refl _, .inl rfl, .inl rfl, S0.out⟩
  case round =>
    clear S0
    obtain ⟨i, j, rfl, rfl, hmi, hij, hjb, LO, HI, SK⟩ := hrel
    by_cases hlt : i < j
    · have hlt' : (i : Int) < (j : Int) := by omega
      obtain ⟨h, hh⟩ : ∃ h, h = (i + j) / 2 := ⟨_, rfl⟩
      have hhi : i ≤ h := by omega
      have hhj : h < j := by omega
      have e2 : ((i : Int) + (j : Int)) / 2 = (h : Int) := by omega
      have HH := Lib.hid hh
      have E2 := Lib.hid e2
      clear hh e2
      go_wp2
      rw [E2.out]
      obtain ⟨x, hx⟩ : ∃ x, x = d[m]! := ⟨_, rfl⟩
      obtain ⟨y, hy⟩ : ∃ y, y = d[h]! := ⟨_, rfl⟩
      have hk := HZ.out
      have hcx := SK.out.cell m (by omega)
      have hcy := SK.out.cell h (by omega)
      rw [← hx] at hcx
      rw [← hy] at hcy
      have hcc := fun n => HC.out d (wr.drewN n) (SK.out.drewN n) x y
      have hle : less cf x y = lx x y := T.late _ _ (by rw [hx, hy]; exact HT.out h m (by omega) (by omega) (Nat.le_refl _) (by omega))
      have HX := Lib.hid hx
      have HY := Lib.hid hy
      have HLE := Lib.hid hle
      have jz : (h : Int) < (sz : Int) := by omega
      have jz1 : (m : Int) < (sz : Int) := by omega
      clear hx hy hk hle
      by_cases hl : cf x y < 0
      · have HL : Hid (less cf x y = true) := decide_eq_true hl
        go_wp2_with fail
        go_quiet (refine Calls.quiet_of (hcc _))
        have SJ2 : Aside (St v w0 blk off d0 d (wr.drewN nq)) := SK.out.drewN nq
        clear hcx hcy hcc SK
        generalize wr.drewN nq = w2 at SJ2 ⊢
        go_wp2
        go_roundw
        case rel =>
          refine ⟨i, h, rfl, rfl, hmi, hhi, by omega, LO.out, ?_, SJ2.out⟩
          show Hi2 _ _ _ _
          refine .inr ?_
          rw [← HX.out, ← HY.out, ← HLE.out]
          exact HL.out
        case measure => simp [intOf]; omega
      · have HL : Hid (less cf x y = false) := decide_eq_false hl
        have hl' : decide (cf x y < 0) = false := decide_eq_false hl
        go_wp2_with fail
        go_quiet (refine Calls.quiet_of (hcc _))
        have SJ2 : Aside (St v w0 blk off d0 d (wr.drewN nq)) := SK.out.drewN nq
        clear hcx hcy hcc SK
        generalize wr.drewN nq = w2 at SJ2 ⊢
        go_wp2
        go_roundw
        case rel =>
          refine ⟨h + 1, j, by go_num, rfl, by omega, by omega, hjb, ?_, HI.out, SJ2.out⟩
          show Lo2 _ _ _ _ _
          refine .inr ?_
          rw [Nat.add_sub_cancel, ← HX.out, ← HY.out, ← HLE.out]
          exact HL.out
        case measure => simp [intOf]; omega
    · obtain rfl : i = j := by omega
      go_wp2
      go_loopw [17] (fun vk wr => ∃ (k : Nat) (dk : Array α), vk = .int .i64 k ∧ i ≤ k ∧ k ≤ m ∧ Hid (dk.size = sz) ∧ Aside (Rot k m (m + 1) d dk) ∧ Aside (St v w0 blk off d0 dk wr)) (fun vk _ => (intOf vk).toNat)
      case atStart => exact ⟨m, d, rfl, by omega, Nat.le_refl _, HZ.out, Rot.noLeft m (m + 1) d, SK.out⟩
      case round =>
        clear SK
        obtain ⟨k, dk, rfl, hak, hki, HK, RK, SK⟩ := hrel
        by_cases hlt2 : i < k
        · obtain ⟨kp, rfl⟩ : ∃ kp, k = kp + 1 := ⟨k - 1, by omega⟩
          have hlt3 : (i : Int) < (kp : Int) + 1 := by omega
          obtain ⟨G, hG⟩ : ∃ G : Nat → Int, ∀ t, G t = v dk[t]! := ⟨fun t => v dk[t]!, fun _ => rfl⟩
          have hk := HK.out
          have hcw : ∀ t, t < sz → wr.cell? ⟨blk, off + t, none⟩ = some (.int .i64 (G t)) := fun t ht => by rw [hG]; exact SK.out.cell t (by omega)
          have hfw : ∀ t, t < sz → wr.frozen? ⟨blk, off + t, none⟩ = false := fun t ht => SK.out.soft t (by omega)
          have HG := Lib.hid hG
          have w1 : IntKind.i64.wrap (kp : Int) = (kp : Int) := by rw [IntKind.wrap_i64]; omega
          clear hk hG
          go_wp2
          go_region
          all_goals go_wp2
          go_roundw
          case rel =>
            refine ⟨kp, swp dk (kp + 1) kp, by first | rfl | go_num, by omega, by omega, ?_, ?_, ?_⟩
            · show _ = _
              rw [size_swp]; exact HK.out
            · exact RK.out.stepLeft hki (by have := HZ.out; omega)
            · have := SK.out.swapped (kp + 1) kp (by have := HK.out; omega) (by have := HK.out; omega)
              rw [← HG.out, ← HG.out] at this
              exact this
          case measure => simp [intOf]
        · obtain rfl : k = i := by omega
          have hlt3 : ¬ (k : Int) < (k : Int) := by omega
          go_wp2
          (try simp only [Exit.inBlock, Exit.then])
          refine bodyPost_ret (results_none rfl _ _ _) rfl ?_
          have hm := HM.out
          have hz := HZ.out
          subst hm
          exact ⟨rfl, dk, permIn_mono _ _ _ _ _ _ hmi (Nat.le_refl _) (by omega) (RK.out.perm (by omega) (by omega) (by omega)), one_left T.swo H1.out RK.out hmi hki LO.out HI.out, SK.out⟩
end Go.Proofs.Ytadaaoljpeojcaa
