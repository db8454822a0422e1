/-
  Package table: whether a policy is wrong, whether policies are a table: isUpTo, isNoPoints, isWrongGrade, isWrong, Right, and the library's ContainsFunc under them. Conditions: those of each theorem.
-/
import Derived.Test.YtbiompjhenkieaaGreatPolX
namespace Go.Proofs.YtbiompjhenkieaaGreat
open Go.RowKit
set_option maxRecDepth 100000

theorem tab_upTo (v m : Int) (w : World) : Calls Tryz.prog 79 #[.int .i64 v, .int .i64 m] w fun e w' => e = .returned (.bool (decide (0 ≤ v ∧ v ≤ m))) ∧ w' = w := by
  by_cases h1 : 0 ≤ v
  · by_cases h2 : v ≤ m
    · rw [decide_eq_true ⟨h1, h2⟩]
      go_enter Tryz.func79, Tryz.ntmps79
      go_wp2
      go_ret
      exact ⟨rfl, rfl⟩
    · rw [decide_eq_false (fun h => h2 h.2)]
      go_enter Tryz.func79, Tryz.ntmps79
      go_wp2
      go_ret
      exact ⟨rfl, rfl⟩
  · rw [decide_eq_false (fun h => h1 h.1)]
    go_enter Tryz.func79, Tryz.ntmps79
    go_wp2
    go_ret
    exact ⟨rfl, rfl⟩

theorem tab_noPoints (v : Int) (w : World) : Calls Tryz.prog 81 #[.int .i64 v] w fun e w' => e = .returned (.bool (!ptB v)) ∧ w' = w := by
  have h := tab_upTo v 10000 w
  rw [show decide (0 ≤ v ∧ v ≤ 10000) = ptB v from rfl] at h
  generalize ptB v = q at *
  have H : Aside _ := h
  clear h
  go_enter Tryz.func81, Tryz.ntmps81
  go_wp2_with fail
  refine (Calls.mono H.out ?_)
  rintro e w1 ⟨rfl, rfl⟩
  go_wp2
  go_ret
  exact ⟨rfl, rfl⟩

theorem tab_wrongGrade (s t : Int) (w : World) : Calls Tryz.prog 83 #[.agg #[.int .i64 s, .int .i64 t]] w fun e w' => e = .returned (.bool (!gradeB s t)) ∧ Below w.heap.size w w' := by
  have HP : Aside (∀ W : World, _) := fun W => tab_noPoints s W
  by_cases t0 : t = 0
  · subst t0
    by_cases s0 : s = 0
    · subst s0
      rw [show gradeB 0 0 = true from rfl]
      go_enter Tryz.func83, Tryz.ntmps83
      go_wp2
      go_ret
      exact ⟨rfl, (Below.refl _ _).alloc (Nat.le_refl _) _⟩
    · rw [show gradeB s 0 = false by simp [gradeB, s0]]
      have s0' : (s != 0) = true := by simpa using s0
      go_enter Tryz.func83, Tryz.ntmps83
      go_wp2
      go_ret
      exact ⟨rfl, (Below.refl _ _).alloc (Nat.le_refl _) _⟩
  · by_cases ht : t = 3 ∨ t = 4 ∨ t = 5
    · rw [show gradeB s t = ptB s by rcases ht with rfl | rfl | rfl <;> simp [gradeB]]
      generalize ptB s = q at *
      rcases ht with rfl | rfl | rfl
      all_goals
        go_enter Tryz.func83, Tryz.ntmps83
        go_wp2_with fail
        refine (Calls.mono (HP.out _) ?_)
        rintro e w1 ⟨rfl, rfl⟩
        go_wp2
        go_ret
        exact ⟨rfl, (Below.refl _ _).alloc (Nat.le_refl _) _⟩
    · have e3 : (t == 3) = false := by simp; omega
      have e4 : (t == 4) = false := by simp; omega
      have e5 : (t == 5) = false := by simp; omega
      have e0 : (t == 0) = false := by simp; omega
      rw [show gradeB s t = false by simp [gradeB, e3, e4, e5, e0]]
      clear ht t0
      go_enter Tryz.func83, Tryz.ntmps83
      go_wp2
      go_ret
      exact ⟨rfl, (Below.refl _ _).alloc (Nat.le_refl _) _⟩

/-- Which of the first k it is, if any: a search that ended. -/
def AnyOf (bad : Nat → Bool) (n : Nat) (i : Int) : Prop := decide (0 ≤ i) = (List.range n).any bad
theorem anyOf_found {bad : Nat → Bool} {n k : Nat} (h : k < n) (hb : bad k = true) : AnyOf bad n k := by
  unfold AnyOf
  rw [decide_eq_true (by omega), eq_comm, List.any_eq_true]
  exact ⟨k, List.mem_range.2 h, hb⟩
theorem anyOf_none {bad : Nat → Bool} {n : Nat} (h : ∀ k, k < n → bad k = false) : AnyOf bad n (-1) := by
  unfold AnyOf
  rw [decide_eq_false (by omega), eq_comm, List.any_eq_false]
  intro k hk
  rw [h k (List.mem_range.1 hk)]
  decide

set_option maxHeartbeats 800000 in
theorem index_ints (g : Nat) (bad : Int → Bool) (f : Nat → Int) (b o n c : Nat) (w : World) (hm : n ≤ 1000) (hb : b < w.heap.size) (hc : ∀ k, k < n → w.cell? ⟨b, o + k, none⟩ = some (.int .i64 (f k)))
    (eg : ∀ args w, (callFunc g args).run Tryz.prog w = .ok (.enter g args) w)
    (hG : ∀ v W, Calls Tryz.prog g #[.int .i64 v] W fun e w' => e = .returned (.bool (bad v)) ∧ w' = W) :
    Calls Tryz.prog 101 #[.slice (some ⟨b, o, none⟩) n c, .func (.func g) #[] #[]] w fun e w' => (∃ i, e = .returned (.int .i64 i) ∧ AnyOf (fun k => bad (f k)) n i) ∧ Below w.heap.size w w' := by
  have HC : Aside (∀ k, k < n → w.cell? ⟨b, o + k, none⟩ = some (.int .i64 (f k))) := hc
  have HG : Aside (∀ v W, Calls Tryz.prog g #[.int .i64 v] W fun e w' => e = .returned (.bool (bad v)) ∧ w' = W) := hG
  clear hc hG
  go_enter Tryz.func101, Tryz.ntmps101
  go_wp2
  go_loopw [8] (fun i wr => ∃ k : Nat, k ≤ n ∧ i = .int .i64 k ∧ Aside (Below w.heap.size w wr) ∧ Hid (∀ j, j < k → bad (f j) = false)) (fun i _ => n - (intOf i).toNat)
  case atStart => exact ⟨0, Nat.zero_le _, rfl, Below.refl _ _, fun j hj => by omega⟩
  case round =>
    obtain ⟨k, hk, rfl, HB, HK⟩ := hrel
    by_cases hlt : k < n
    · have hkn : (k : Int) < (n : Int) := by omega
      have ck : wr.cell? ⟨b, o + k, none⟩ = some (.int .i64 (f k)) := (HB.out.cell (p := ⟨b, o + k, none⟩) hb).trans (HC.out k hlt)
      have HF : Hid (bad (f k) = true → AnyOf (fun k => bad (f k)) n k) := fun e => anyOf_found hlt e
      have HT : Hid (bad (f k) = false → ∀ j, j < k + 1 → bad (f j) = false) := fun e j hj => by
        by_cases h : j = k
        · subst h; exact e
        · exact HK.out j (by omega)
      have HGk : Aside _ := HG.out (f k)
      obtain ⟨q, hq⟩ : ∃ q, q = bad (f k) := ⟨_, rfl⟩
      rw [← hq] at HF HT HGk
      generalize f k = x at *
      clear hq
      go_wp2_with fail
      refine (Calls.mono (HGk.out _) ?_)
      rintro e w2 ⟨rfl, rfl⟩
      cases q with
      | true =>
        have HA := Lib.hid (HF.out rfl)
        go_wp2
        go_ret
        exact ⟨⟨_, rfl, HA.out⟩, HB.out⟩
      | false =>
        have HA := Lib.hid (HT.out rfl)
        go_wp2
        go_roundw
        case rel => exact ⟨k + 1, by omega, by go_num, HB.out, HA.out⟩
        case measure => simp [intOf]; omega
    · obtain rfl : k = n := by omega
      go_wp2
      go_ret
      exact ⟨⟨_, rfl, anyOf_none HK.out⟩, HB.out⟩

theorem contains_ints (g : Nat) (bad : Int → Bool) (f : Nat → Int) (b o n c : Nat) (w : World) (hm : n ≤ 1000) (hb : b < w.heap.size) (hc : ∀ k, k < n → w.cell? ⟨b, o + k, none⟩ = some (.int .i64 (f k)))
    (eg : ∀ args w, (callFunc g args).run Tryz.prog w = .ok (.enter g args) w)
    (hG : ∀ v W, Calls Tryz.prog g #[.int .i64 v] W fun e w' => e = .returned (.bool (bad v)) ∧ w' = W) :
    Calls Tryz.prog 80 #[.slice (some ⟨b, o, none⟩) n c, .func (.func g) #[] #[]] w fun e w' => e = .returned (.bool ((List.range n).any fun k => bad (f k))) ∧ Below w.heap.size w w' := by
  have H : Aside _ := index_ints g bad f b o n c w hm hb hc eg hG
  clear hc eg hG hb
  go_enter Tryz.func80, Tryz.ntmps80
  go_wp2_with fail
  refine (Calls.mono H.out ?_)
  rintro e w1 ⟨⟨i, rfl, hi⟩, b1⟩
  have HI : Hid (decide (0 ≤ i) = _) := hi
  clear hi H
  go_wp2
  go_ret
  exact ⟨by rw [← HI.out]; rfl, b1⟩

set_option maxHeartbeats 800000 in
theorem index_grades (g : Nat) (bad : Int → Int → Bool) (f t : Nat → Int) (b o n c : Nat) (w : World) (hm : n ≤ 1000) (hb : b < w.heap.size)
    (hc : ∀ k, k < n → w.cell? ⟨b, o + k * 2, none⟩ = some (.int .i64 (f k)) ∧ w.cell? ⟨b, o + k * 2 + 1, none⟩ = some (.int .i64 (t k)))
    (eg : ∀ args w, (callFunc g args).run Tryz.prog w = .ok (.enter g args) w)
    (hG : ∀ v u W, Calls Tryz.prog g #[.agg #[.int .i64 v, .int .i64 u]] W fun e w' => e = .returned (.bool (bad v u)) ∧ Below W.heap.size W w') :
    Calls Tryz.prog 102 #[.slice (some ⟨b, o, none⟩) n c, .func (.func g) #[] #[]] w fun e w' => (∃ i, e = .returned (.int .i64 i) ∧ AnyOf (fun k => bad (f k) (t k)) n i) ∧ Below w.heap.size w w' := by
  have HC : Aside (∀ k, k < n → w.cell? ⟨b, o + k * 2, none⟩ = some (.int .i64 (f k)) ∧ w.cell? ⟨b, o + k * 2 + 1, none⟩ = some (.int .i64 (t k))) := hc
  have HG : Aside (∀ v u W, Calls Tryz.prog g #[.agg #[.int .i64 v, .int .i64 u]] W fun e w' => e = .returned (.bool (bad v u)) ∧ Below W.heap.size W w') := hG
  clear hc hG
  go_enter Tryz.func102, Tryz.ntmps102
  go_wp2
  go_loopw [8] (fun i wr => ∃ k : Nat, k ≤ n ∧ i = .int .i64 k ∧ Aside (Below w.heap.size w wr) ∧ Hid (∀ j, j < k → bad (f j) (t j) = false)) (fun i _ => n - (intOf i).toNat)
  case atStart => exact ⟨0, Nat.zero_le _, rfl, Below.refl _ _, fun j hj => by omega⟩
  case round =>
    obtain ⟨k, hk, rfl, HB, HK⟩ := hrel
    by_cases hlt : k < n
    · have hkn : (k : Int) < (n : Int) := by omega
      have ck : wr.cell? ⟨b, o + k * 2, none⟩ = some (.int .i64 (f k)) := (HB.out.cell (p := ⟨b, o + k * 2, none⟩) hb).trans (HC.out k hlt).1
      have ct : wr.cell? ⟨b, o + k * 2 + 1, none⟩ = some (.int .i64 (t k)) := (HB.out.cell (p := ⟨b, o + k * 2 + 1, none⟩) hb).trans (HC.out k hlt).2
      have HF : Hid (bad (f k) (t k) = true → AnyOf (fun k => bad (f k) (t k)) n k) := fun e => anyOf_found hlt e
      have HT : Hid (bad (f k) (t k) = false → ∀ j, j < k + 1 → bad (f j) (t j) = false) := fun e j hj => by
        by_cases h : j = k
        · subst h; exact e
        · exact HK.out j (by omega)
      have HGk : Aside _ := HG.out (f k) (t k)
      obtain ⟨q, hq⟩ : ∃ q, q = bad (f k) (t k) := ⟨_, rfl⟩
      rw [← hq] at HF HT HGk
      generalize f k = x at *
      generalize t k = y at *
      clear hq
      go_wp2_with fail
      refine (Calls.mono (HGk.out _) ?_)
      rintro e w2 ⟨rfl, b2⟩
      have HB2 : Aside (Below w.heap.size w w2) := HB.out.trans (b2.mono HB.out.size)
      clear b2 ck ct HB
      cases q with
      | true =>
        have HA := Lib.hid (HF.out rfl)
        go_wp2
        go_ret
        exact ⟨⟨_, rfl, HA.out⟩, HB2.out⟩
      | false =>
        have HA := Lib.hid (HT.out rfl)
        go_wp2
        go_roundw
        case rel => exact ⟨k + 1, by omega, by go_num, HB2.out, HA.out⟩
        case measure => simp [intOf]; omega
    · obtain rfl : k = n := by omega
      go_wp2
      go_ret
      exact ⟨⟨_, rfl, anyOf_none HK.out⟩, HB.out⟩

theorem contains_grades (g : Nat) (bad : Int → Int → Bool) (f t : Nat → Int) (b o n c : Nat) (w : World) (hm : n ≤ 1000) (hb : b < w.heap.size)
    (hc : ∀ k, k < n → w.cell? ⟨b, o + k * 2, none⟩ = some (.int .i64 (f k)) ∧ w.cell? ⟨b, o + k * 2 + 1, none⟩ = some (.int .i64 (t k)))
    (eg : ∀ args w, (callFunc g args).run Tryz.prog w = .ok (.enter g args) w)
    (hG : ∀ v u W, Calls Tryz.prog g #[.agg #[.int .i64 v, .int .i64 u]] W fun e w' => e = .returned (.bool (bad v u)) ∧ Below W.heap.size W w') :
    Calls Tryz.prog 82 #[.slice (some ⟨b, o, none⟩) n c, .func (.func g) #[] #[]] w fun e w' => e = .returned (.bool ((List.range n).any fun k => bad (f k) (t k))) ∧ Below w.heap.size w w' := by
  have H : Aside _ := index_grades g bad f t b o n c w hm hb hc eg hG
  clear hc eg hG hb
  go_enter Tryz.func82, Tryz.ntmps82
  go_wp2_with fail
  refine (Calls.mono H.out ?_)
  rintro e w1 ⟨⟨i, rfl, hi⟩, b1⟩
  have HI : Hid (decide (0 ≤ i) = _) := hi
  clear hi H
  go_wp2
  go_ret
  exact ⟨by rw [← HI.out]; rfl, b1⟩

theorem wrong_is (p : Pol) : (!rightP p) = (!decide (0 ≤ p.win ∧ p.win ≤ 1000) || (List.range 4).any (fun k => !ptB (p.fee k)) || (List.range 4).any (fun k => !gradeB (p.share k) (p.dest k))) := by
  unfold rightP
  simp only [List.range_succ, List.range_zero, List.nil_append, List.all_append, List.any_append, List.all_cons, List.all_nil, List.any_cons, List.any_nil, Bool.and_true, Bool.or_false]
  generalize ptB (p.fee 0) = a0
  generalize ptB (p.fee 1) = a1
  generalize ptB (p.fee 2) = a2
  generalize ptB (p.fee 3) = a3
  generalize gradeB (p.share 0) (p.dest 0) = b0
  generalize gradeB (p.share 1) (p.dest 1) = b1
  generalize gradeB (p.share 2) (p.dest 2) = b2
  generalize gradeB (p.share 3) (p.dest 3) = b3
  generalize decide (0 ≤ p.win ∧ p.win ≤ 1000) = d
  revert a0 a1 a2 a3 b0 b1 b2 b3 d
  decide

set_option maxHeartbeats 2000000 in
theorem tab_isWrong (p : Pol) (w : World) : Calls Tryz.prog 55 #[.agg p.arr] w fun e w' => e = .returned (.bool (!rightP p)) ∧ Below w.heap.size w w' := by
  have hp := pol_new w p 64
  have HPA : Aside _ := hp
  have hw : w.heap.size < (w.alloc (.cells p.arr 64)).heap.size := hp.lt
  have HB : Aside (Below w.heap.size w (w.alloc (.cells p.arr 64))) := (Below.refl _ _).alloc (Nat.le_refl _) _
  have cw := hp.win
  have HWR := Lib.hid (wrong_is p)
  generalize (!rightP p) = q at *
  have HU : Aside _ := tab_upTo p.win 1000 (w.alloc (.cells p.arr 64))
  clear hp
  go_enter Tryz.func55, Tryz.ntmps55
  go_upto_region 1 with (fail)
  show Code.wp _ _ _ _ (w.alloc (.cells p.arr 64))
  generalize w.alloc (.cells p.arr 64) = w1 at *
  have HCI : Aside (∀ W, Below w1.heap.size w1 W → Calls Tryz.prog 80 #[.slice (some ⟨w.heap.size, 4, none⟩) 4 4, .func (.func 81) #[] #[]] W fun e w' => e = .returned (.bool ((List.range 4).any fun k => !ptB (p.fee k))) ∧ Below W.heap.size W w') := fun W h =>
    contains_ints 81 (fun v => !ptB v) p.fee w.heap.size 4 4 4 W (by decide) (Nat.lt_of_lt_of_le hw h.size) (fun k hk => (HPA.out.grown h).fee k hk) (fun _ _ => rfl) tab_noPoints
  have HCG : Aside (∀ W, Below w1.heap.size w1 W → Calls Tryz.prog 82 #[.slice (some ⟨w.heap.size, 8, none⟩) 4 4, .func (.func 83) #[] #[]] W fun e w' => e = .returned (.bool ((List.range 4).any fun k => !gradeB (p.share k) (p.dest k))) ∧ Below W.heap.size W w') := fun W h =>
    contains_grades 83 (fun v u => !gradeB v u) p.share p.dest w.heap.size 8 4 4 W (by decide) (Nat.lt_of_lt_of_le hw h.size) (fun k hk => ⟨(HPA.out.grown h).share k hk, (HPA.out.grown h).dest k hk⟩) (fun _ _ => rfl) tab_wrongGrade
  generalize (List.range 4).any (fun k => !ptB (p.fee k)) = q1 at *
  generalize (List.range 4).any (fun k => !gradeB (p.share k) (p.dest k)) = q2 at *
  generalize decide (0 ≤ p.win ∧ p.win ≤ 1000) = q0 at *
  generalize p.win = v at *
  cases q0 with
  | false =>
    obtain rfl : q = true := HWR.out
    go_wp2_with fail
    refine (Calls.mono HU.out ?_)
    rintro e w2 ⟨rfl, rfl⟩
    go_wp2
    go_ret
    exact ⟨rfl, HB.out⟩
  | true =>
    cases q1 with
    | true =>
      obtain rfl : q = true := HWR.out
      go_wp2_with fail
      refine (Calls.mono HU.out ?_)
      rintro e w2 ⟨rfl, rfl⟩
      go_wp2_with fail
      refine (Calls.mono (HCI.out _ (Below.refl _ _)) ?_)
      rintro e w3 ⟨rfl, b3⟩
      have HB3 : Aside _ := HB.out.trans (b3.mono HB.out.size)
      go_wp2
      go_ret
      exact ⟨rfl, HB3.out⟩
    | false =>
      obtain rfl : q = q2 := HWR.out
      go_wp2_with fail
      refine (Calls.mono HU.out ?_)
      rintro e w2 ⟨rfl, rfl⟩
      go_wp2_with fail
      refine (Calls.mono (HCI.out _ (Below.refl _ _)) ?_)
      rintro e w3 ⟨rfl, b3⟩
      have HB3 : Aside _ := HB.out.trans (b3.mono HB.out.size)
      go_wp2_with fail
      refine (Calls.mono (HCG.out _ b3) ?_)
      rintro e w4 ⟨rfl, b4⟩
      have HB4 : Aside _ := HB3.out.trans (b4.mono HB3.out.size)
      go_wp2
      go_ret
      exact ⟨rfl, HB4.out⟩

set_option maxHeartbeats 2000000 in
theorem index_pols (g : Nat) (bad : Pol → Bool) (a : Option Addr) (ps : List Pol) (n c : Nat) (w : World) (hm : n ≤ 1000) (hn : ps.length = n) (hp : PolsAt w a ps)
    (eg : ∀ args w, (callFunc g args).run Tryz.prog w = .ok (.enter g args) w)
    (hG : ∀ p W, Calls Tryz.prog g #[.agg (Pol.arr p)] W fun e w' => e = .returned (.bool (bad p)) ∧ Below W.heap.size W w') :
    Calls Tryz.prog 78 #[.slice a n c, .func (.func g) #[] #[]] w fun e w' => (∃ i : Int, e = .returned (.int .i64 i) ∧ decide (0 ≤ i) = ps.any bad) ∧ Below w.heap.size w w' := by
  have HG : Aside (∀ p W, Calls Tryz.prog g #[.agg (Pol.arr p)] W fun e w' => e = .returned (.bool (bad p)) ∧ Below W.heap.size W w') := hG
  have HN := Lib.hid hn
  clear hn hG
  go_enter Tryz.func78, Tryz.ntmps78
  go_wp2
  go_loopw [8] (fun i wr => ∃ k : Nat, k ≤ n ∧ i = .int .i64 k ∧ Aside (Below w.heap.size w wr) ∧ Hid ((ps.take k).any bad = false)) (fun i _ => n - (intOf i).toNat)
  case atStart => exact ⟨0, Nat.zero_le _, rfl, Below.refl _ _, rfl⟩
  case round =>
    obtain ⟨k, hk, rfl, HB, HK⟩ := hrel
    by_cases hlt : k < n
    · have hkn : (k : Int) < (n : Int) := by omega
      rcases hp with rfl | ⟨b, off, rfl, hb, hc⟩
      · have := HN.out; simp at this; omega
      have hlk : k < ps.length := by rw [HN.out]; exact hlt
      have hpk := (hc k hlk).below HB.out hb
      obtain ⟨z0, z1, z2, z3, z4, z5, z6, z7, z8, z9, za, zb, zc, zd, ze, zf⟩ := hpk.all
      have HF : Hid (bad ps[k] = true → ps.any bad = true) := fun e => List.any_eq_true.2 ⟨_, List.getElem_mem hlk, e⟩
      have HT : Hid ((ps.take (k + 1)).any bad = bad ps[k]) := by
        show _ = _
        rw [List.take_succ_eq_append_getElem hlk, List.any_append, HK.out]
        simp
      have HGk : Aside _ := HG.out ps[k]
      obtain ⟨q, hq⟩ : ∃ q, q = bad ps[k] := ⟨_, rfl⟩
      rw [← hq] at HF HT HGk
      clear hpk hc hq
      generalize ps[k] = p at *
      go_wp2_with fail
      refine (Calls.mono (HGk.out _) ?_)
      rintro e w2 ⟨rfl, b2⟩
      have HB2 : Aside (Below w.heap.size w w2) := HB.out.trans (b2.mono HB.out.size)
      clear b2 z0 z1 z2 z3 z4 z5 z6 z7 z8 z9 za zb zc zd ze zf
      cases q with
      | true =>
        have HA := Lib.hid (HF.out rfl)
        go_wp2
        go_ret
        exact ⟨⟨_, rfl, by rw [HA.out]; exact decide_eq_true (by omega)⟩, HB2.out⟩
      | false =>
        go_wp2
        go_roundw
        case rel => exact ⟨k + 1, by omega, by go_num, HB2.out, HT.out⟩
        case measure => simp [intOf]; omega
    · obtain rfl : k = n := by omega
      have HA : Hid (ps.any bad = false) := by
        have := HK.out
        rwa [List.take_of_length_le (by rw [HN.out]; exact Nat.le_refl _)] at this
      go_wp2
      go_ret
      exact ⟨⟨_, rfl, by rw [HA.out]; exact decide_eq_false (by decide)⟩, HB.out⟩

theorem contains_pols (g : Nat) (bad : Pol → Bool) (a : Option Addr) (ps : List Pol) (n c : Nat) (w : World) (hm : n ≤ 1000) (hn : ps.length = n) (hp : PolsAt w a ps)
    (eg : ∀ args w, (callFunc g args).run Tryz.prog w = .ok (.enter g args) w)
    (hG : ∀ p W, Calls Tryz.prog g #[.agg (Pol.arr p)] W fun e w' => e = .returned (.bool (bad p)) ∧ Below W.heap.size W w') :
    Calls Tryz.prog 54 #[.slice a n c, .func (.func g) #[] #[]] w fun e w' => e = .returned (.bool (ps.any bad)) ∧ Below w.heap.size w w' := by
  have H : Aside _ := index_pols g bad a ps n c w hm hn hp eg hG
  clear hn hp eg hG
  go_enter Tryz.func54, Tryz.ntmps54
  go_wp2_with fail
  refine (Calls.mono H.out ?_)
  rintro e w1 ⟨⟨i, rfl, hi⟩, b1⟩
  have HI : Hid (decide (0 ≤ i) = _) := hi
  clear hi H
  go_wp2
  go_ret
  exact ⟨by rw [← HI.out]; rfl, b1⟩

theorem table_right (a : Option Addr) (ps : List Pol) (n c : Nat) (w : World) (hn : ps.length = n) (hp : PolsAt w a ps) (hm : n ≤ maxLen) :
    Calls Tryz.prog 32 #[.slice a n c] w fun e w' => e = .returned (.bool (rightT ps)) ∧ Below w.heap.size w w' := by
  unfold maxLen at hm
  by_cases h16 : n ≤ 16
  · have h16' : (n : Int) ≤ 16 := by omega
    have e : rightT ps = !(ps.any fun p => !rightP p) := by
      unfold rightT
      rw [decide_eq_true (by omega), Bool.true_and, List.not_any_eq_all_not]
      simp
    rw [e]
    have H : Aside _ := contains_pols 55 (fun p => !rightP p) a ps n c w (by omega) hn hp (fun _ _ => rfl) tab_isWrong
    clear hn hp e
    generalize (ps.any fun p => !rightP p) = q at *
    go_enter Tryz.func32, Tryz.ntmps32
    go_wp2_with fail
    refine (Calls.mono H.out ?_)
    rintro e w1 ⟨rfl, b1⟩
    go_wp2
    go_ret
    exact ⟨rfl, b1⟩
  · have h16' : ¬ (n : Int) ≤ 16 := by omega
    have e : rightT ps = false := by
      unfold rightT
      rw [decide_eq_false (by omega), Bool.false_and]
    rw [e]
    clear hn hp e
    go_enter Tryz.func32, Tryz.ntmps32
    go_wp2
    go_ret
    exact ⟨rfl, Below.refl _ _⟩
end Go.Proofs.YtbiompjhenkieaaGreat
