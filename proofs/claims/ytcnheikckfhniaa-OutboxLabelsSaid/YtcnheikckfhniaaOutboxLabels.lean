/-
  The law OutboxLabels of layer 13 returns true whatever its arguments are, and leaves them as they were. No condition.
-/
import Derived.Test.YtcnheikckfhniaaOutLaw
import Derived.Test.YtcnheikckfhniaaOutAgn
namespace Go.Proofs.Ytcnheikckfhniaa
open Go.RowKit
set_option maxRecDepth 100000

theorem again_not {m : Msg} {now : Int} (h : ¬ m.due ≤ now) : agSaid now ([m].filter (dueB now)) = [] ∧ agOver ([m].filter (dueB now)) = [] ∧ agLeft now [m] = [m] := by
  have e : dueB now m = false := decide_eq_false h
  refine ⟨by simp [agSaid, e], by simp [agOver, e], by simp [agLeft, e]⟩
theorem again_over {m : Msg} {now : Int} (h : m.due ≤ now) (ho : overB m = true) : agSaid now ([m].filter (dueB now)) = [] ∧ agOver ([m].filter (dueB now)) = [m] ∧ agLeft now [m] = [] := by
  have e : dueB now m = true := decide_eq_true h
  refine ⟨by simp [agSaid, e, ho], by simp [agOver, e, ho], by simp [agLeft, e, ho]⟩
theorem again_said {m : Msg} {now : Int} (h : m.due ≤ now) (ho : overB m = false) : agSaid now ([m].filter (dueB now)) = [said m now] ∧ agOver ([m].filter (dueB now)) = [] ∧ agLeft now [m] = [said m now] := by
  have e : dueB now m = true := decide_eq_true h
  refine ⟨by simp [agSaid, e, ho], by simp [agOver, e, ho], by simp [agLeft, e, ho]⟩
/-- What the law knows of its message on a day. -/
def LabelAt (kind t d j : Int) : Prop := kind = 1 → j ≤ d ∧ ((t = 1 ∧ d = 1) ∨ (t = 2 ∧ d = 3) ∨ (t = 3 ∧ d = 7) ∨ (t = 4 ∧ d = 15) ∨ (t = 5 ∧ d = 23))
/-- The outbox of one message, or none, beside the law. -/
def Lone (w wr : World) (p : Nat) (xs : List Msg) : Prop := ∃ S : Nat → Prop, OutAt wr p S 1 xs ∧ (∀ k, S k → w.heap.size ≤ k ∧ k < wr.heap.size) ∧ Below w.heap.size w wr
theorem lone_again {w wr : World} {p : Nat} {m : Msg} (h : Lone w wr p [m]) (htr : 0 ≤ m.tries ∧ m.tries < 1000000) (now : Int) (hnow : -(1099511627776) ≤ now ∧ now ≤ 1099511627776) {xs ys zs : List Msg} (he : agSaid now ([m].filter (dueB now)) = xs ∧ agOver ([m].filter (dueB now)) = ys ∧ agLeft now [m] = zs) :
    Calls Try.prog 13 #[.pointer (some ⟨p, 0, none⟩), .int .i64 now] wr fun e w' => ∃ a1 c1 a2 c2, e = .returned (.tuple #[.slice a1 xs.length c1, .slice a2 ys.length c2]) ∧ Lone w w' p zs := by
  obtain ⟨S, h1, h2, h3⟩ := h
  refine (out_again h1 (fun k hk => (h2 k hk).2) (List.pairwise_singleton _ _) (fun x hx => by rw [List.mem_singleton.1 hx]; exact htr) (by simp) now hnow).mono ?_
  rintro e w' ⟨a1, c1, a2, c2, S', rfl, -, -, q3, q4, q5⟩
  rw [he.1, he.2.1]
  rw [he.2.2] at q3
  refine ⟨a1, c1, a2, c2, rfl, S', q3, fun k hk => ?_, h3.trans (q5.toBelow h3.size (fun k hk x => by have := (h2 k x).1; omega))⟩
  obtain ⟨r1, r2⟩ := q4 k hk
  refine ⟨?_, r2⟩
  rcases r1 with r1 | r1
  · exact (h2 k r1).1
  · exact Nat.le_trans h3.size r1
theorem lone_all {w wr : World} {p : Nat} {xs : List Msg} (h : Lone w wr p xs) (hr : Rise xs) : Calls Try.prog 16 #[.pointer (some ⟨p, 0, none⟩)] wr fun e w' => ∃ a c, e = .returned (.slice a xs.length c) ∧ MRow w' a xs ∧ Lone w w' p xs := by
  obtain ⟨S, h1, h2, h3⟩ := h
  refine (out_all h1 hr (List.Perm.refl _)).mono ?_
  rintro e w' ⟨a, c, rfl, r, b⟩
  exact ⟨a, c, rfl, mrow_own r rfl, S, OutSt.below h1 b, fun k hk => ⟨(h2 k hk).1, Nat.lt_of_lt_of_le (h2 k hk).2 b.size⟩, h3.trans (b.mono h3.size)⟩

set_option maxHeartbeats 4000000 in
theorem outboxLabels_law (kind rma value days : Int) (w : World) (hdy : (Lit.int .u8 days).wf = true) : Calls Try.prog 6 #[.int .i64 kind, .int .i64 rma, .int .i64 value, .int .u8 days] w fun e w' => e = .returned (.bool true) ∧ Below w.heap.size w w' := by
  obtain ⟨d0, d1⟩ := wf_u8 hdy
  clear hdy
  have HA : Aside _ := out_awake w
  go_enter Try.func6, Try.ntmps6
  go_wp2_with fail
  refine Calls.mono HA.out ?_
  rintro e w1 ⟨rfl, b1⟩
  have HB : Aside (Below w.heap.size w w1) := b1
  have HN : Aside _ := out_new w1
  clear b1 HA
  go_wp2_with fail
  refine Calls.mono HN.out ?_
  rintro e w2 ⟨rfl, h2, b2, s2⟩
  have HP : Aside _ := out_put h2 kind rma value 0 (by simp) (by omega) (by omega)
  have HB2 : Aside (Below w.heap.size w w2) := HB.out.trans (b2.mono HB.out.size)
  have hs1 : w.heap.size ≤ w1.heap.size := HB.out.size
  clear h2 b2 HN
  generalize w1.heap.size = p at *
  go_wp2_with fail
  refine Calls.mono HP.out ?_
  rintro e w3 ⟨rfl, h3, u3⟩
  have HL : Aside (Lone w w3 p [⟨1, kind, rma, value, 1, 1⟩]) := by
    refine ⟨_, h3, ?_, HB2.out.trans (u3.toBelow HB2.out.size (fun k hk x => by have x : k = p := x; omega))⟩
    rintro k (x | ⟨x1, x2⟩)
    · have x : k = p := x
      have := u3.size
      omega
    · exact ⟨by omega, x2⟩
  clear h3 u3 HP HB2 HB
  generalize fresh 0 kind rma value 0 = y at *
  go_wp2
  go_loopw [10, 11] (fun s i wr => ∃ (j : Nat) (t d : Int), 1 ≤ j ∧ (j : Int) ≤ days + 1 ∧ i = .int .i64 j ∧ s = .int .i64 t ∧ 1 ≤ t ∧ t ≤ j ∧ Hid (LabelAt kind t d j) ∧ Aside (Lone w wr p [⟨1, kind, rma, value, t, d⟩])) (fun _ i _ => 300 - (intOf i).toNat)
  case atStart => exact ⟨1, 1, 1, Nat.le_refl _, by omega, rfl, rfl, by omega, by omega, fun _ => ⟨by omega, .inl ⟨rfl, rfl⟩⟩, HL.out⟩
  case round =>
    clear HL
    obtain ⟨j, t, d, hj1, hj2, rfl, rfl, ht1, ht2, HT, HO⟩ := hrel
    have hj3 : j ≤ 256 := by omega
    by_cases hlt : (j : Int) ≤ days
    · by_cases hdue : d ≤ j
      · by_cases hov : kind = 1 ∧ 5 ≤ t
        · obtain ⟨rfl, ht5⟩ := hov
          have ht : t = 5 ∧ 23 ≤ (j : Int) := by have := HT.out rfl; omega
          obtain ⟨rfl, hj23⟩ := ht
          have HAG : Aside _ := lone_again HO.out (by dsimp only; omega) j (by omega) (again_over (m := ⟨1, 1, rma, value, 5, d⟩) hdue (by simp [overB]))
          clear HO HT
          go_wp2_with fail
          refine Calls.mono HAG.out ?_
          rintro e w5 ⟨a1, c1, a2, c2, rfl, h5⟩
          have HAL : Aside _ := lone_all h5 List.Pairwise.nil
          clear h5 HAG
          rw [List.length_nil, List.length_singleton]
          go_wp2_with fail
          refine Calls.mono HAL.out ?_
          rintro e w6 ⟨a3, c3, rfl, -, h6⟩
          obtain ⟨S6, -, -, b6⟩ := h6
          have HF : Aside _ := b6
          rw [List.length_nil]
          clear b6 HAL
          go_wp2
          go_ret
          exact ⟨rfl, HF.out⟩
        · have ho : overB ⟨1, kind, rma, value, t, d⟩ = false := by
            unfold overB
            by_cases hk : kind = 1
            · have h5 : ¬ 5 ≤ t := fun x => hov ⟨hk, x⟩
              simp [h5]
            · simp [hk]
          have HAG : Aside _ := lone_again HO.out (by dsimp only; omega) j (by omega) (again_said (m := ⟨1, kind, rma, value, t, d⟩) hdue ho)
          have HN : Hid (LabelAt kind (t + 1) (j + waitOf (t + 1)) ((j + 1 : Nat) : Int)) := by
            intro hk
            have h5 := HT.out hk
            have ht5 : ¬ 5 ≤ t := fun x => hov ⟨hk, x⟩
            have e2 : waitOf 2 = 2 := rfl
            have e3 : waitOf 3 = 4 := rfl
            have e4 : waitOf 4 = 8 := rfl
            have e5 : waitOf 5 = 8 := rfl
            obtain ⟨q1, q2 | q2 | q2 | q2 | q2⟩ := h5
            · obtain ⟨rfl, rfl⟩ := q2
              rw [show (1 : Int) + 1 = 2 by omega, e2]
              omega
            · obtain ⟨rfl, rfl⟩ := q2
              rw [show (2 : Int) + 1 = 3 by omega, e3]
              omega
            · obtain ⟨rfl, rfl⟩ := q2
              rw [show (3 : Int) + 1 = 4 by omega, e4]
              omega
            · obtain ⟨rfl, rfl⟩ := q2
              rw [show (4 : Int) + 1 = 5 by omega, e5]
              omega
            · omega
          clear HO HT ho hov
          go_wp2_with fail
          refine Calls.mono HAG.out ?_
          rintro e w5 ⟨a1, c1, a2, c2, rfl, h5⟩
          have H5 : Aside (Lone w w5 p [⟨1, kind, rma, value, t + 1, j + waitOf (t + 1)⟩]) := h5
          clear h5 HAG
          rw [List.length_nil, List.length_singleton]
          go_wp2
          go_roundw
          case rel => exact ⟨j + 1, t + 1, j + waitOf (t + 1), by omega, by omega, by go_num, rfl, by omega, by omega, HN.out, H5.out⟩
          case measure => simp [intOf]; omega
      · have HAG : Aside _ := lone_again HO.out (by dsimp only; omega) j (by omega) (again_not (m := ⟨1, kind, rma, value, t, d⟩) hdue)
        have HN : Hid (LabelAt kind t d ((j + 1 : Nat) : Int)) := by
          intro hk
          have h5 := HT.out hk
          omega
        clear HO HT
        go_wp2_with fail
        refine Calls.mono HAG.out ?_
        rintro e w5 ⟨a1, c1, a2, c2, rfl, h5⟩
        have H5 : Aside (Lone w w5 p [⟨1, kind, rma, value, t, d⟩]) := h5
        clear h5 HAG
        rw [List.length_nil]
        go_wp2
        go_roundw
        case rel => exact ⟨j + 1, t, d, by omega, by omega, by go_num, by simp, by omega, by omega, HN.out, H5.out⟩
        case measure => simp [intOf]; omega
    · have hjd : (j : Int) = days + 1 := by omega
      have HAL : Aside _ := lone_all HO.out (List.pairwise_singleton _ _)
      have HLT : Hid (LabelAt kind t d j) := HT
      clear HO
      go_wp2_with fail
      refine Calls.mono HAL.out ?_
      rintro e w5 ⟨a5, c5, rfl, -, h5⟩
      have HAL5 : Aside _ := lone_all h5 (List.pairwise_singleton _ _)
      rw [List.length_singleton]
      clear h5 HAL
      by_cases hk : kind = 1
      · subst hk
        have hd23 : days < 23 := by have := HLT.out rfl; omega
        go_wp2_with fail
        refine Calls.mono HAL5.out ?_
        rintro e w6 ⟨a6, c6, rfl, r6, h6⟩
        obtain ⟨b6, o6, rfl, l6, m6⟩ := r6.at_ (by simp)
        have z4 := (m6 0 (by simp)).x4
        obtain ⟨S6, -, -, hb6⟩ := h6
        have HF : Aside _ := hb6
        rw [List.length_singleton]
        change w6.cell? ⟨b6, o6 + 0 * 6 + 4, none⟩ = some (.int .i64 t) at z4
        rw [Nat.zero_mul, Nat.add_zero] at z4
        clear hb6 HAL5 m6
        go_wp2
        go_ret
        exact ⟨by simp, HF.out⟩
      · have hne : (kind == 1) = false := by simpa using hk
        go_wp2_with fail
        refine Calls.mono HAL5.out ?_
        rintro e w6 ⟨a6, c6, rfl, r6, h6⟩
        obtain ⟨b6, o6, rfl, l6, m6⟩ := r6.at_ (by simp)
        have z4 := (m6 0 (by simp)).x4
        obtain ⟨S6, -, -, hb6⟩ := h6
        have HF : Aside _ := hb6
        rw [List.length_singleton]
        change w6.cell? ⟨b6, o6 + 0 * 6 + 4, none⟩ = some (.int .i64 t) at z4
        rw [Nat.zero_mul, Nat.add_zero] at z4
        clear hb6 HAL5 m6
        go_wp2
        go_ret
        exact ⟨by simp, HF.out⟩

theorem outboxLabels_contract (W : World) (args : Array Value) (h : Each Try.prog W Try.f6.params.toList args.toList) :
    Calls Try.prog 6 args W fun e W' => e = .returned (.bool true) ∧ Below W.heap.size W W' := by
  rw [Try.params6] at h
  obtain ⟨v0, r0, e0, ⟨_, o0⟩, d0, h⟩ := h.cons
  obtain ⟨v1, r1, rfl, ⟨_, o1⟩, d1, h⟩ := h.cons
  obtain ⟨v2, r2, rfl, ⟨_, o2⟩, d2, h⟩ := h.cons
  obtain ⟨v3, r3, rfl, ⟨_, o3⟩, d3, h⟩ := h.cons
  obtain rfl := h.nil
  obtain ⟨args⟩ := args
  obtain rfl : args = [v0, v1, v2, v3] := e0
  obtain ⟨x0, rfl, hx0⟩ := val_int o0 d0 Try.underlying3
  obtain ⟨x1, rfl, hx1⟩ := val_int o1 d1 Try.underlying3
  obtain ⟨x2, rfl, hx2⟩ := val_int o2 d2 Try.underlying2
  obtain ⟨x3, rfl, hx3⟩ := val_int o3 d3 Try.underlying5
  exact outboxLabels_law x0 x1 x2 x3 W hx3

theorem outboxLabels_lifted (os : Os) (started : os.Started) (H : Type) (enc : TypeId × Value → H) :
    ReturnsInHanded {} Try.checked os 6 .any (Rows.outboxLabelsSpec.pre6 enc Try.prog Try.f6 Rows.outboxLabelsRow.domain false) (Rows.outboxLabelsSpec.post enc Try.prog Try.f6 false true false false) :=
  law_lifted (C := Try.checked) seat_own seat_laid (by kernel_rfl) Try.func6 rfl (tb := 4) rfl Try.underlying4
    (by
      rw [Try.params6]; intro t ht; simp at ht
      rcases ht with rfl | rfl | rfl | rfl <;> exact ⟨by kernel_rfl, of_decide_eq_true (by kernel_rfl)⟩)
    (fun H ds hl => by
      rw [Try.params6] at hl
      match ds, hl with
      | [d1, d2, d3, d4], _ => rfl)
    os started H enc
    (ChangeSpec.witness6 (enc := enc) (C := Try.checked) false ⟨#[], #[.int .i64 0, .int .i64 0, .int .i64 0, .int .u8 0], []⟩ 8 (by kernel_rfl) (by kernel_rfl) (by kernel_rfl) (by kernel_rfl))
    outboxLabels_contract

theorem outboxLabels_holds : Rows.OutboxLabelsSaid :=
  OpenClaim.holds_of_wide 6 Try.f6 rfl rfl rfl rfl rfl rfl rfl ⟨rfl, rfl, rfl, rfl, rfl⟩ rfl rfl rfl rfl rfl (by kernel_rfl) Try.func6 (by kernel_rfl)
    (of_decide_eq_true (by kernel_rfl)) (by unfold Func.isWrapper; first | (rw [if_pos (by decide +kernel)]; kernel_rfl) | (rw [if_neg (by decide +kernel)]; exact ⟨rfl, rfl⟩))
    (fun os started H enc _ => outboxLabels_lifted os started H enc)
#print axioms outboxLabels_holds
end Go.Proofs.Ytcnheikckfhniaa
