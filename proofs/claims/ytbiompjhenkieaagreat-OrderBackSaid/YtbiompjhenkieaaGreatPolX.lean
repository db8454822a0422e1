/-
  A policy as cells; recoupref05's points, RightPolicy, RightTable. Conditions: those of each theorem. The document's right policies and tables: recoupref05.RightPolicy, RightTable. Conditions: those of each theorem. Policies that come in. Conditions: those of each theorem. Values of ints and bools, in arrays and structs, are equal to themselves. Program-independent. Conditions: those of each theorem. A policy is equal to itself. No conditions. == of structs and arrays of ints and bools: it is the equality of their parts. Program-independent. Conditions: those of each theorem. What a right policy's numbers are. Plain. Conditions: those of each theorem.
-/
import Derived.Test.YtbiompjhenkieaaGreatBase
import Derived.Deep.LoopGhost
import Derived.Deep.QuietTactic
import Derived.BigQuiet
import Derived.Deep.DeepCutAuto
import Derived.ChangeKeysEq
namespace Go.Proofs.YtbiompjhenkieaaGreat
open Go.RowKit
set_option maxRecDepth 100000

/-- A policy. -/
structure Pol where
  win : Int
  fin : Bool
  exc : Bool
  cre : Bool
  fee : Nat → Int
  share : Nat → Int
  dest : Nat → Int
def Pol.arr (p : Pol) : Array Value := #[.int .i64 p.win, .bool p.fin, .bool p.exc, .bool p.cre, .int .i64 (p.fee 0), .int .i64 (p.fee 1), .int .i64 (p.fee 2), .int .i64 (p.fee 3),
  .int .i64 (p.share 0), .int .i64 (p.dest 0), .int .i64 (p.share 1), .int .i64 (p.dest 1), .int .i64 (p.share 2), .int .i64 (p.dest 2), .int .i64 (p.share 3), .int .i64 (p.dest 3)]
theorem Pol.arr_size (p : Pol) : p.arr.size = 16 := rfl
/-- A policy in memory. -/
structure PolAt (w : World) (b o : Nat) (p : Pol) : Prop where
  lt : b < w.heap.size
  cells : ∀ j v, p.arr[j]? = some v → w.cell? ⟨b, o + j, none⟩ = some v
theorem PolAt.below {w w' : World} {b o B : Nat} {p : Pol} (h : PolAt w b o p) (k : Below B w w') (hB : b < B) : PolAt w' b o p :=
  ⟨Nat.lt_of_lt_of_le h.lt k.size, fun j v hj => (k.cell (p := ⟨b, o + j, none⟩) hB).trans (h.cells j v hj)⟩
theorem PolAt.grown {w w' : World} {b o : Nat} {p : Pol} (h : PolAt w b o p) (k : Below w.heap.size w w') : PolAt w' b o p := h.below k h.lt
theorem pol_new (w : World) (p : Pol) (t : TypeId) : PolAt (w.alloc (.cells p.arr t)) w.heap.size 0 p :=
  ⟨by simp, fun j v hj => by rw [Nat.zero_add]; exact (World.cell?_alloc_new w p.arr t j).trans hj⟩
section
variable {w : World} {b o : Nat} {p : Pol}
theorem PolAt.win (h : PolAt w b 0 p) : w.cell? ⟨b, 0, none⟩ = some (.int .i64 p.win) := h.cells 0 _ rfl
theorem PolAt.fin (h : PolAt w b 0 p) : w.cell? ⟨b, 1, none⟩ = some (.bool p.fin) := by simpa using h.cells 1 (.bool p.fin) rfl
theorem PolAt.exc (h : PolAt w b 0 p) : w.cell? ⟨b, 2, none⟩ = some (.bool p.exc) := by simpa using h.cells 2 (.bool p.exc) rfl
theorem PolAt.cre (h : PolAt w b 0 p) : w.cell? ⟨b, 3, none⟩ = some (.bool p.cre) := by simpa using h.cells 3 (.bool p.cre) rfl
theorem PolAt.fee (h : PolAt w b 0 p) (k : Nat) (hk : k < 4) : w.cell? ⟨b, 4 + k, none⟩ = some (.int .i64 (p.fee k)) := by
  have := h.cells (4 + k) (.int .i64 (p.fee k)) (by match k, hk with | 0, _ => rfl | 1, _ => rfl | 2, _ => rfl | 3, _ => rfl)
  rwa [Nat.zero_add] at this
theorem PolAt.share (h : PolAt w b 0 p) (k : Nat) (hk : k < 4) : w.cell? ⟨b, 8 + k * 2, none⟩ = some (.int .i64 (p.share k)) := by
  have := h.cells (8 + k * 2) (.int .i64 (p.share k)) (by match k, hk with | 0, _ => rfl | 1, _ => rfl | 2, _ => rfl | 3, _ => rfl)
  rwa [Nat.zero_add] at this
theorem PolAt.dest (h : PolAt w b 0 p) (k : Nat) (hk : k < 4) : w.cell? ⟨b, 8 + k * 2 + 1, none⟩ = some (.int .i64 (p.dest k)) := by
  have := h.cells (8 + k * 2 + 1) (.int .i64 (p.dest k)) (by match k, hk with | 0, _ => rfl | 1, _ => rfl | 2, _ => rfl | 3, _ => rfl)
  rwa [Nat.zero_add] at this
end

theorem PolAt.all {w : World} {b o : Nat} {p : Pol} (h : PolAt w b o p) : w.cell? ⟨b, o, none⟩ = some (.int .i64 p.win) ∧ w.cell? ⟨b, o + 1, none⟩ = some (.bool p.fin) ∧ w.cell? ⟨b, o + 2, none⟩ = some (.bool p.exc) ∧ w.cell? ⟨b, o + 3, none⟩ = some (.bool p.cre) ∧ w.cell? ⟨b, o + 4, none⟩ = some (.int .i64 (p.fee 0)) ∧ w.cell? ⟨b, o + 5, none⟩ = some (.int .i64 (p.fee 1)) ∧ w.cell? ⟨b, o + 6, none⟩ = some (.int .i64 (p.fee 2)) ∧ w.cell? ⟨b, o + 7, none⟩ = some (.int .i64 (p.fee 3)) ∧ w.cell? ⟨b, o + 8, none⟩ = some (.int .i64 (p.share 0)) ∧ w.cell? ⟨b, o + 9, none⟩ = some (.int .i64 (p.dest 0)) ∧ w.cell? ⟨b, o + 10, none⟩ = some (.int .i64 (p.share 1)) ∧ w.cell? ⟨b, o + 11, none⟩ = some (.int .i64 (p.dest 1)) ∧ w.cell? ⟨b, o + 12, none⟩ = some (.int .i64 (p.share 2)) ∧ w.cell? ⟨b, o + 13, none⟩ = some (.int .i64 (p.dest 2)) ∧ w.cell? ⟨b, o + 14, none⟩ = some (.int .i64 (p.share 3)) ∧ w.cell? ⟨b, o + 15, none⟩ = some (.int .i64 (p.dest 3)) :=
  ⟨h.cells 0 (.int .i64 p.win) rfl, h.cells 1 (.bool p.fin) rfl, h.cells 2 (.bool p.exc) rfl, h.cells 3 (.bool p.cre) rfl, h.cells 4 (.int .i64 (p.fee 0)) rfl, h.cells 5 (.int .i64 (p.fee 1)) rfl, h.cells 6 (.int .i64 (p.fee 2)) rfl, h.cells 7 (.int .i64 (p.fee 3)) rfl, h.cells 8 (.int .i64 (p.share 0)) rfl, h.cells 9 (.int .i64 (p.dest 0)) rfl, h.cells 10 (.int .i64 (p.share 1)) rfl, h.cells 11 (.int .i64 (p.dest 1)) rfl, h.cells 12 (.int .i64 (p.share 2)) rfl, h.cells 13 (.int .i64 (p.dest 2)) rfl, h.cells 14 (.int .i64 (p.share 3)) rfl, h.cells 15 (.int .i64 (p.dest 3)) rfl⟩

/-- Points. -/
def ptB (n : Int) : Bool := decide (0 ≤ n ∧ n ≤ 10000)
def gradeB (s t : Int) : Bool := ptB s && (t == 3 || t == 4 || t == 5 || (t == 0 && s == 0))
def rightP (p : Pol) : Bool := (List.range 4).all (fun k => ptB (p.fee k) && gradeB (p.share k) (p.dest k)) && decide (0 ≤ p.win ∧ p.win ≤ 1000)
def rightT (ps : List Pol) : Bool := decide (ps.length ≤ 16) && ps.all rightP

theorem rightP_bad {p : Pol} {k : Nat} (hk : k < 4) (h : (ptB (p.fee k) && gradeB (p.share k) (p.dest k)) = false) : rightP p = false := by
  unfold rightP
  rw [Bool.and_eq_false_iff]
  left
  rw [List.all_eq_false]
  exact ⟨k, List.mem_range.2 hk, by rw [h]; decide⟩
theorem all_next {p : Pol} {k : Nat} (ha : ((List.range k).all fun k => ptB (p.fee k) && gradeB (p.share k) (p.dest k)) = true) (h : (ptB (p.fee k) && gradeB (p.share k) (p.dest k)) = true) :
    ((List.range (k + 1)).all fun k => ptB (p.fee k) && gradeB (p.share k) (p.dest k)) = true := by
  rw [List.range_succ, List.all_append, ha]
  simpa using h

theorem ref_points (n : Int) (w : World) : Calls Tryz.prog 64 #[.int .i64 n] w fun e w' => e = .returned (.bool (ptB n)) ∧ w' = w := by
  by_cases h1 : 0 ≤ n
  · by_cases h2 : n ≤ 10000
    · have hr : ptB n = true := by simp [ptB]; omega
      rw [hr]
      clear hr
      go_enter Tryz.func64, Tryz.ntmps64
      go_wp2
      go_ret
      exact ⟨rfl, rfl⟩
    · have hr : ptB n = false := by simp [ptB]; omega
      rw [hr]
      clear hr
      go_enter Tryz.func64, Tryz.ntmps64
      go_wp2
      go_ret
      exact ⟨rfl, rfl⟩
  · have hr : ptB n = false := by simp [ptB]; omega
    rw [hr]
    clear hr
    go_enter Tryz.func64, Tryz.ntmps64
    go_wp2
    go_ret
    exact ⟨rfl, rfl⟩
end Go.Proofs.YtbiompjhenkieaaGreat

namespace Go.Proofs.YtbiompjhenkieaaGreat
open Go.RowKit
set_option maxRecDepth 100000

set_option maxHeartbeats 2000000 in
theorem ref_rightPolicy (p : Pol) (w : World) : Calls Tryz.prog 43 #[.agg p.arr] w fun e w' => e = .returned (.bool (rightP p)) ∧ Below w.heap.size w w' := by
  have hp := pol_new w p 64
  have HPA : Aside _ := hp
  have HB : Aside (Below w.heap.size w (w.alloc (.cells p.arr 64))) := (Below.refl _ _).alloc (Nat.le_refl _) _
  clear hp
  go_enter Tryz.func43, Tryz.ntmps43
  go_wp2
  generalize w.alloc (.cells p.arr 64) = w1 at *
  go_loopw [5] (fun i wr => ∃ k : Nat, k ≤ 4 ∧ i = .int .i64 k ∧ Aside (Below w1.heap.size w1 wr) ∧ Hid ((List.range k).all (fun k => ptB (p.fee k) && gradeB (p.share k) (p.dest k)) = true)) (fun i _ => 4 - (intOf i).toNat)
  case atStart => exact ⟨0, by omega, rfl, Below.refl _ _, rfl⟩
  case round =>
    obtain ⟨k, hk, rfl, HR, HK⟩ := hrel
    by_cases hlt : k < 4
    · have hlt' : (k : Int) < 4 := by omega
      have hq := HPA.out.grown HR.out
      have c1 := hq.fee k hlt
      have c2 := hq.share k hlt
      have c3 := hq.dest k hlt
      have hwl : w.heap.size < wr.heap.size := hq.lt
      clear hq
      obtain ⟨q, hq⟩ : ∃ q : Bool, (ptB (p.fee k) && gradeB (p.share k) (p.dest k)) = q := ⟨_, rfl⟩
      have HF : Hid (q = false → rightP p = false) := fun e => rightP_bad hlt (hq.trans e)
      have HT : Hid (q = true → ((List.range (k + 1)).all fun k => ptB (p.fee k) && gradeB (p.share k) (p.dest k)) = true) := fun e => all_next HK.out (hq.trans e)
      have HQ := Lib.hid hq
      clear hq
      generalize p.fee k = f at *
      generalize p.share k = s at *
      generalize p.dest k = t at *
      go_upto_region 5 with (fail)
      have hz : wr.heap.size < (wr.alloc (.cells #[.int .i64 s, .int .i64 t] 61)).heap.size := by simp
      have g1 : (wr.alloc (.cells #[.int .i64 s, .int .i64 t] 61)).cell? ⟨wr.heap.size, 0, none⟩ = some (.int .i64 s) := by simp
      have g2 : (wr.alloc (.cells #[.int .i64 s, .int .i64 t] 61)).cell? ⟨wr.heap.size, 1, none⟩ = some (.int .i64 t) := by simp
      have c4 : (wr.alloc (.cells #[.int .i64 s, .int .i64 t] 61)).cell? ⟨w.heap.size, 4 + k, none⟩ = some (.int .i64 f) := (World.cell?_alloc_lt _ _ _ hwl).trans c1
      have HR2 : Aside (Below w1.heap.size w1 (wr.alloc (.cells #[.int .i64 s, .int .i64 t] 61))) := HR.out.alloc HR.out.size _
      clear c1 c2 c3 HR
      generalize wr.alloc (.cells #[.int .i64 s, .int .i64 t] 61) = w5 at *
      go_cut [53] (fun s53 wx => s53 = .bool (!q) ∧ w5 = wx)
      case first =>
        as_aux_lemma =>
          cases k1 : ptB f with
          | false =>
            obtain rfl : q = false := by rw [← HQ.out]; simp [k1]
            go_wp2_with fail
            refine (ref_points _ _).mono ?_
            rintro e w9 ⟨rfl, rfl⟩
            rw [k1]
            go_wp2_with fail
            go_meet
            exact ⟨rfl, rfl⟩
          | true =>
            cases k2 : ptB s with
            | false =>
              obtain rfl : q = false := by rw [← HQ.out]; simp [k1, k2, gradeB]
              go_wp2_with fail
              refine (ref_points _ _).mono ?_
              rintro e w9 ⟨rfl, rfl⟩
              rw [k1]
              go_wp2_with fail
              refine (ref_points _ _).mono ?_
              rintro e w9 ⟨rfl, rfl⟩
              rw [k2]
              go_wp2_with fail
              go_meet
              exact ⟨rfl, rfl⟩
            | true =>
              by_cases t0 : t = 0
              · subst t0
                by_cases s0 : s = 0
                · subst s0
                  obtain rfl : q = true := by rw [← HQ.out]; simp [k1, k2, gradeB]
                  go_wp2_with fail
                  refine (ref_points _ _).mono ?_
                  rintro e w9 ⟨rfl, rfl⟩
                  rw [k1]
                  go_wp2_with fail
                  refine (ref_points _ _).mono ?_
                  rintro e w9 ⟨rfl, rfl⟩
                  rw [k2]
                  go_wp2_with fail
                  go_meet
                  exact ⟨rfl, rfl⟩
                · have s0' : (s != 0) = true := by simpa using s0
                  obtain rfl : q = false := by rw [← HQ.out]; simp [k1, k2, gradeB, s0]
                  go_wp2_with fail
                  refine (ref_points _ _).mono ?_
                  rintro e w9 ⟨rfl, rfl⟩
                  rw [k1]
                  go_wp2_with fail
                  refine (ref_points _ _).mono ?_
                  rintro e w9 ⟨rfl, rfl⟩
                  rw [k2]
                  go_wp2_with fail
                  go_meet
                  exact ⟨rfl, rfl⟩
              · by_cases t3 : t = 3
                · subst t3
                  obtain rfl : q = true := by rw [← HQ.out]; simp [k1, k2, gradeB]
                  go_wp2_with fail
                  refine (ref_points _ _).mono ?_
                  rintro e w9 ⟨rfl, rfl⟩
                  rw [k1]
                  go_wp2_with fail
                  refine (ref_points _ _).mono ?_
                  rintro e w9 ⟨rfl, rfl⟩
                  rw [k2]
                  go_wp2_with fail
                  go_meet
                  exact ⟨rfl, rfl⟩
                · by_cases t4 : t = 4
                  · subst t4
                    obtain rfl : q = true := by rw [← HQ.out]; simp [k1, k2, gradeB]
                    go_wp2_with fail
                    refine (ref_points _ _).mono ?_
                    rintro e w9 ⟨rfl, rfl⟩
                    rw [k1]
                    go_wp2_with fail
                    refine (ref_points _ _).mono ?_
                    rintro e w9 ⟨rfl, rfl⟩
                    rw [k2]
                    go_wp2_with fail
                    go_meet
                    exact ⟨rfl, rfl⟩
                  · by_cases t5 : t = 5
                    · subst t5
                      obtain rfl : q = true := by rw [← HQ.out]; simp [k1, k2, gradeB]
                      go_wp2_with fail
                      refine (ref_points _ _).mono ?_
                      rintro e w9 ⟨rfl, rfl⟩
                      rw [k1]
                      go_wp2_with fail
                      refine (ref_points _ _).mono ?_
                      rintro e w9 ⟨rfl, rfl⟩
                      rw [k2]
                      go_wp2_with fail
                      go_meet
                      exact ⟨rfl, rfl⟩
                    · have u0 : (t == 0) = false := by simpa using t0
                      have u3 : (t == 3) = false := by simpa using t3
                      have u4 : (t == 4) = false := by simpa using t4
                      have u5 : (t == 5) = false := by simpa using t5
                      obtain rfl : q = false := by rw [← HQ.out]; simp [k1, k2, gradeB, t0, t3, t4, t5]
                      go_wp2_with fail
                      refine (ref_points _ _).mono ?_
                      rintro e w9 ⟨rfl, rfl⟩
                      rw [k1]
                      go_wp2_with fail
                      refine (ref_points _ _).mono ?_
                      rintro e w9 ⟨rfl, rfl⟩
                      rw [k2]
                      go_wp2_with fail
                      go_meet
                      exact ⟨rfl, rfl⟩
      case rest =>
        obtain ⟨rfl, rfl⟩ := hcut
        clear g1 g2 c4
        cases q with
        | false =>
          have hf := Lib.hid (HF.out rfl)
          go_wp2
          go_ret
          exact ⟨by rw [hf.out]; rfl, HB.out.trans (HR2.out.mono HB.out.size)⟩
        | true =>
          go_wp2
          go_roundw
          case rel => exact ⟨k + 1, by omega, by go_num, HR2.out, HT.out rfl⟩
          case measure => simp [intOf]; omega
    · obtain rfl : k = 4 := by omega
      have hq := HPA.out.grown HR.out
      have c0 := hq.win
      have hE : Aside (Below w.heap.size w wr) := HB.out.trans (HR.out.mono HB.out.size)
      have hw := Lib.hid (show rightP p = decide (0 ≤ p.win ∧ p.win ≤ 1000) by unfold rightP; rw [HK.out, Bool.true_and])
      clear hq
      generalize p.win = v at *
      by_cases v1 : 0 ≤ v
      · by_cases v2 : v ≤ 1000
        · have hd := Lib.hid (decide_eq_true (p := 0 ≤ v ∧ v ≤ 1000) ⟨v1, v2⟩)
          go_wp2
          go_ret
          exact ⟨by rw [hw.out, hd.out]; rfl, hE.out⟩
        · have hd := Lib.hid (decide_eq_false (p := 0 ≤ v ∧ v ≤ 1000) (fun x => v2 x.2))
          go_wp2
          go_ret
          exact ⟨by rw [hw.out, hd.out]; rfl, hE.out⟩
      · have hd := Lib.hid (decide_eq_false (p := 0 ≤ v ∧ v ≤ 1000) (fun x => v1 x.1))
        go_wp2
        go_ret
        exact ⟨by rw [hw.out, hd.out]; rfl, hE.out⟩

/-- A row of policies. -/
def PolsAt (w : World) (a : Option Addr) (ps : List Pol) : Prop :=
  ps = [] ∨ ∃ b off, a = some ⟨b, off, none⟩ ∧ b < w.heap.size ∧ ∀ i (h : i < ps.length), PolAt w b (off + i * 16) ps[i]
theorem PolsAt.below {w w' : World} {a : Option Addr} {ps : List Pol} (h : PolsAt w a ps) (k : Below w.heap.size w w') : PolsAt w' a ps := by
  rcases h with h | ⟨b, off, h1, h2, h3⟩
  · exact .inl h
  · exact .inr ⟨b, off, h1, Nat.lt_of_lt_of_le h2 k.size, fun i hi => (h3 i hi).grown k⟩
theorem info_pol : (Tryz.prog.info? 64).map (·.size) = some 16 := by kernel_rfl

set_option maxHeartbeats 2000000 in
theorem ref_rightTable (a : Option Addr) (ps : List Pol) (n c : Nat) (w : World) (hn : ps.length = n) (hp : PolsAt w a ps) (hm : n ≤ maxLen) :
    Calls Tryz.prog 17 #[.slice a n c] w fun e w' => e = .returned (.bool (rightT ps)) ∧ Below w.heap.size w w' := by
  unfold maxLen at hm
  have HN := Lib.hid hn
  clear hn
  go_enter Tryz.func17, Tryz.ntmps17
  go_wp2
  go_loopw [6] (fun i wr => ∃ k : Nat, k ≤ n ∧ k ≤ 16 ∧ i = .int .i64 k ∧ Aside (Below w.heap.size w wr) ∧ Hid ((ps.take k).all rightP = true)) (fun i _ => n - (intOf i).toNat)
  case atStart => exact ⟨0, Nat.zero_le _, by omega, rfl, Below.refl _ _, rfl⟩
  case round =>
    obtain ⟨k, hk, hk16, rfl, HB, HK⟩ := hrel
    by_cases hlt : k < n
    · have hkn : (k : Int) < (n : Int) := by omega
      rcases hp with rfl | ⟨b, off, rfl, hb, hc⟩
      · have := HN.out; simp at this; omega
      have hlk : k < ps.length := by rw [HN.out]; exact hlt
      by_cases h16 : k < 16
      · have h16' : ¬ (16 : Int) ≤ (k : Int) := by omega
        have hpk := (hc k hlk).below HB.out hb
        obtain ⟨z0, z1, z2, z3, z4, z5, z6, z7, z8, z9, za, zb, zc, zd, ze, zf⟩ := hpk.all
        have HT : Hid ((ps.take (k + 1)).all rightP = rightP ps[k]) := by
          show _ = _
          rw [List.take_succ_eq_append_getElem hlk, List.all_append, HK.out]
          simp
        have HF : Hid (rightP ps[k] = false → rightT ps = false) := fun e => by
          unfold rightT
          rw [Bool.and_eq_false_iff]
          right
          rw [List.all_eq_false]
          exact ⟨ps[k], List.getElem_mem hlk, by rw [e]; decide⟩
        clear hpk hc
        generalize ps[k] = p at *
        go_wp2_with fail
        refine (ref_rightPolicy p wr).mono ?_
        rintro e w2 ⟨rfl, b2⟩
        have HB2 : Aside (Below w.heap.size w w2) := HB.out.trans (b2.mono HB.out.size)
        clear b2 z0 z1 z2 z3 z4 z5 z6 z7 z8 z9 za zb zc zd ze zf
        cases hr : rightP p with
        | false =>
          have hf := Lib.hid (HF.out hr)
          go_wp2
          go_ret
          exact ⟨by rw [hf.out]; rfl, HB2.out⟩
        | true =>
          have ht : Hid ((ps.take (k + 1)).all rightP = true) := HT.out.trans hr
          go_wp2
          go_roundw
          case rel => exact ⟨k + 1, by omega, by omega, by go_num, HB2.out, ht.out⟩
          case measure => simp [intOf]; omega
      · have h16' : (16 : Int) ≤ (k : Int) := by omega
        have hf : Hid (rightT ps = false) := by
          show _ = _
          unfold rightT
          rw [Bool.and_eq_false_iff]
          left
          exact decide_eq_false (by omega)
        go_wp2
        go_ret
        exact ⟨by rw [hf.out]; rfl, HB.out⟩
    · obtain rfl : k = n := by omega
      have hf : Hid (rightT ps = true) := by
        show _ = _
        have h1 := HK.out
        rw [List.take_of_length_le (by rw [HN.out]; exact Nat.le_refl _)] at h1
        unfold rightT
        rw [h1, Bool.and_true]
        exact decide_eq_true (by rw [HN.out]; exact hk16)
      go_wp2
      go_ret
      exact ⟨by rw [hf.out]; rfl, HB.out⟩
end Go.Proofs.YtbiompjhenkieaaGreat

namespace Go.Proofs.YtbiompjhenkieaaGreat
open Go.RowKit Go.WideShapes
set_option maxRecDepth 100000

/-- All of a policy's numbers fit. -/
structure PolFit (p : Pol) : Prop where
  win : I64 p.win
  fee : ∀ k, k < 4 → I64 (p.fee k)
  share : ∀ k, k < 4 → I64 (p.share k)
  dest : ∀ k, k < 4 → I64 (p.dest k)
theorem cells_pol : Tryz.prog.cellsOf 64 = 16 := by kernel_rfl
theorem cells_pint : Tryz.prog.cellsOf 3 = 1 := by kernel_rfl
theorem cells_pbool : Tryz.prog.cellsOf 4 = 1 := by kernel_rfl
theorem cells_pfees : Tryz.prog.cellsOf 59 = 4 := by kernel_rfl
theorem cells_pgrades : Tryz.prog.cellsOf 62 = 8 := by kernel_rfl
theorem cells_pgrade : Tryz.prog.cellsOf 61 = 2 := by kernel_rfl

theorem rd_pol {w : World} {cs : List Value} (h : Rd Tryz.prog w 64 cs) : ∃ p : Pol, cs = p.arr.toList ∧ PolFit p := by
  have hl := (h.struct Tryz.underlying64).1
  rw [cells_pol] at hl
  match cs, hl with
  | [c0, c1, c2, c3, c4, c5, c6, c7, c8, c9, ca, cb, cc, cd, ce, cf], _ =>
    have f0 : Rd Tryz.prog w 3 [c0] := h.field Tryz.underlying64 0 rfl rfl rfl cells_pint
    have f1 : Rd Tryz.prog w 4 [c1] := h.field Tryz.underlying64 1 rfl rfl rfl cells_pbool
    have f2 : Rd Tryz.prog w 4 [c2] := h.field Tryz.underlying64 2 rfl rfl rfl cells_pbool
    have f3 : Rd Tryz.prog w 4 [c3] := h.field Tryz.underlying64 3 rfl rfl rfl cells_pbool
    have f4 : Rd Tryz.prog w 59 [c4, c5, c6, c7] := h.field Tryz.underlying64 4 rfl rfl rfl cells_pfees
    have f5 : Rd Tryz.prog w 62 [c8, c9, ca, cb, cc, cd, ce, cf] := h.field Tryz.underlying64 5 rfl rfl rfl cells_pgrades
    have g4 := (f4.array Tryz.underlying59).2
    have g5 := (f5.array Tryz.underlying62).2
    rw [cells_pint] at g4
    rw [cells_pgrade] at g5
    obtain ⟨v0, e0, w0⟩ := f0.int Tryz.underlying3
    obtain ⟨v1, e1⟩ := f1.bool Tryz.underlying4
    obtain ⟨v2, e2⟩ := f2.bool Tryz.underlying4
    obtain ⟨v3, e3⟩ := f3.bool Tryz.underlying4
    obtain ⟨v4, e4, w4⟩ := (g4 0 (by decide)).int Tryz.underlying3
    obtain ⟨v5, e5, w5⟩ := (g4 1 (by decide)).int Tryz.underlying3
    obtain ⟨v6, e6, w6⟩ := (g4 2 (by decide)).int Tryz.underlying3
    obtain ⟨v7, e7, w7⟩ := (g4 3 (by decide)).int Tryz.underlying3
    have gr : ∀ {x y : Value}, Rd Tryz.prog w 61 [x, y] → ∃ s t : Int, x = .int .i64 s ∧ y = .int .i64 t ∧ I64 s ∧ I64 t := by
      intro x y hg
      have a0 : Rd Tryz.prog w 3 [x] := hg.field Tryz.underlying61 0 rfl rfl rfl cells_pint
      have a1 : Rd Tryz.prog w 3 [y] := hg.field Tryz.underlying61 1 rfl rfl rfl cells_pint
      obtain ⟨s, b0, d0⟩ := a0.int Tryz.underlying3
      obtain ⟨t, b1, d1⟩ := a1.int Tryz.underlying3
      exact ⟨s, t, by injection b0, by injection b1, wf_i64 d0, wf_i64 d1⟩
    obtain ⟨s0, t0, e8, e9, m0, n0⟩ := gr (g5 0 (by decide))
    obtain ⟨s1, t1, ea, eb, m1, n1⟩ := gr (g5 1 (by decide))
    obtain ⟨s2, t2, ec, ed, m2, n2⟩ := gr (g5 2 (by decide))
    obtain ⟨s3, t3, ee, ef, m3, n3⟩ := gr (g5 3 (by decide))
    obtain rfl : c0 = .int .i64 v0 := by injection e0
    obtain rfl : c1 = .bool v1 := by injection e1
    obtain rfl : c2 = .bool v2 := by injection e2
    obtain rfl : c3 = .bool v3 := by injection e3
    obtain rfl : c4 = .int .i64 v4 := by injection e4
    obtain rfl : c5 = .int .i64 v5 := by injection e5
    obtain rfl : c6 = .int .i64 v6 := by injection e6
    obtain rfl : c7 = .int .i64 v7 := by injection e7
    subst e8 e9 ea eb ec ed ee ef
    let nth4 : Int → Int → Int → Int → Nat → Int := fun a b c d k => if k = 0 then a else if k = 1 then b else if k = 2 then c else d
    refine ⟨⟨v0, v1, v2, v3, nth4 v4 v5 v6 v7, nth4 s0 s1 s2 s3, nth4 t0 t1 t2 t3⟩, rfl, wf_i64 w0, ?_, ?_, ?_⟩
    · intro k hk
      match k, hk with
      | 0, _ => exact wf_i64 w4
      | 1, _ => exact wf_i64 w5
      | 2, _ => exact wf_i64 w6
      | 3, _ => exact wf_i64 w7
    · intro k hk
      match k, hk with
      | 0, _ => exact m0
      | 1, _ => exact m1
      | 2, _ => exact m2
      | 3, _ => exact m3
    · intro k hk
      match k, hk with
      | 0, _ => exact n0
      | 1, _ => exact n1
      | 2, _ => exact n2
      | 3, _ => exact n3

theorem pols_of {w : World} {a : Option Addr} {n c : Nat} (h : Rd Tryz.prog w 24 [.slice a n c]) : ∃ ps : List Pol, ps.length = n ∧ PolsAt w a ps ∧ n ≤ maxLen ∧ ∀ p ∈ ps, PolFit p := by
  obtain ⟨a', n', c', e, hn, hc, hr, _⟩ := h.slice_at Tryz.underlying24 cells_pol (by decide)
  injection e with e _
  injection e with e1 e2 e3
  subst e1 e2 e3
  have key : ∀ i, i < n → ∃ p : Pol, PolFit p ∧ ∃ b off, a = some ⟨b, off, none⟩ ∧ PolAt w b (off + i * 16) p := by
    intro i hi
    rcases hr with h0 | ⟨b, off, rfl, hb, hrow⟩
    · omega
    · obtain ⟨cs, hl, hat, hrd⟩ := hrow i (by omega)
      obtain ⟨p, rfl, hf⟩ := rd_pol hrd
      refine ⟨p, hf, b, off, rfl, hb, fun j v hj => ?_⟩
      have hj16 : j < 16 := (Array.getElem?_eq_some_iff.1 hj).1
      rw [hat j hj16, Array.getElem?_toList]
      exact hj
  refine ⟨(List.range n).map fun i => if h : i < n then Classical.choose (key i h) else ⟨0, false, false, false, fun _ => 0, fun _ => 0, fun _ => 0⟩, by simp, ?_, by omega, ?_⟩
  · by_cases h0 : n = 0
    · exact .inl (by simp [h0])
    · rcases hr with h1 | ⟨b, off, rfl, hb, _⟩
      · omega
      · refine .inr ⟨b, off, rfl, hb, fun i hi => ?_⟩
        simp only [List.length_map, List.length_range] at hi
        simp only [List.getElem_map, List.getElem_range, dif_pos hi]
        obtain ⟨_, b', off', e, h⟩ := Classical.choose_spec (key i hi)
        injection e with e
        injection e with e1 e2
        subst e1 e2
        exact h
  · intro p hp
    obtain ⟨i, hi, rfl⟩ := List.mem_map.1 hp
    have hi := List.mem_range.1 hi
    simp only [dif_pos hi]
    exact (Classical.choose_spec (key i hi)).1
end Go.Proofs.YtbiompjhenkieaaGreat

namespace Go.Proofs.YtbiompjhenkieaaGreat
open Go.RowKit
set_option maxRecDepth 100000

/-- A piece of a value is equal to itself. -/
def PieceSelf (P : Program) (d : Nat) (t : TypeId) (xs : Array Value) (off : Nat) : Prop := ∀ W : World, ∃ a, (part t xs off).run P W = .ok a W ∧ (Op.equalIn d t a a).run P W = .ok true W
theorem eqFields_self {P : Program} (d : Nat) (xs : Array Value) : ∀ (fs : List Field) (W : World), (∀ f ∈ fs, PieceSelf P d f.type xs f.offset) → (Op.eqFields d xs xs fs).run P W = .ok true W
  | [], W, _ => by simp [Op.eqFields]
  | f :: fs, W, h => by
    obtain ⟨a, h1, h2⟩ := h f (List.mem_cons_self ..) W
    have ih := eqFields_self d xs fs W fun g hg => h g (List.mem_cons_of_mem _ hg)
    unfold Op.eqFields
    by_cases hn : f.name ≠ "_"
    · rw [if_pos hn]
      simp only [Sem.run_bind, h1, h2, Result.andThen_ok, Bool.not_true, Bool.false_eq_true, if_false]
      exact ih
    · rw [if_neg hn]
      exact ih
theorem eqItems_self {P : Program} (d : Nat) (e : TypeId) (c : Nat) (xs : Array Value) : ∀ (is : List Nat) (W : World), (∀ i ∈ is, PieceSelf P d e xs (i * c)) → (Op.eqItems d e c xs xs is).run P W = .ok true W
  | [], W, _ => by simp [Op.eqItems]
  | i :: is, W, h => by
    obtain ⟨a, h1, h2⟩ := h i (List.mem_cons_self ..) W
    have ih := eqItems_self d e c xs is W fun g hg => h g (List.mem_cons_of_mem _ hg)
    simp only [Op.eqItems, Sem.run_bind, h1, h2, Result.andThen_ok, Bool.not_true, Bool.false_eq_true, if_false]
    exact ih
theorem run_isAgg_no {P : Program} {t : TypeId} {d : TypeDesc} (h : P.underlying t = some d) (hd : aggD d = false) (w : World) : (isAgg t).run P w = .ok false w := by
  unfold isAgg
  rw [Sem.run_bind, run_underlying h w]
  cases d <;> simp_all [aggD]
theorem piece_int {P : Program} {d off : Nat} {t : TypeId} {k k' : IntKind} {xs : Array Value} {n : Int} (ht : P.underlying t = some (.int k')) (hx : xs[off]? = some (.int k n)) : PieceSelf P (d + 1) t xs off := fun W =>
  ⟨.int k n, by simp [part, Sem.run_bind, run_isAgg_no ht rfl, hx], by rw [run_equalIn_int W d t k k' n n ht]; simp⟩
theorem piece_bool {P : Program} {d off : Nat} {t : TypeId} {xs : Array Value} {b : Bool} (ht : P.underlying t = some .bool) (hx : xs[off]? = some (.bool b)) : PieceSelf P (d + 1) t xs off := fun W =>
  ⟨.bool b, by simp [part, Sem.run_bind, run_isAgg_no ht rfl, hx], by rw [run_equalIn_bool' W d t b b ht]; simp⟩
theorem array_self {P : Program} {d n : Nat} {t e : TypeId} {i : TypeInfo} {xs : Array Value} (hu : P.underlying t = some (.array n e)) (hi : P.info? e = some i) (h : ∀ j, j < n → PieceSelf P d e xs (j * P.cellsOf e)) (W : World) :
    (Op.equalIn (d + 1) t (.agg xs) (.agg xs)).run P W = .ok true W := by
  rw [run_equalIn_array W d xs xs hu hi]
  exact eqItems_self d e _ xs _ W fun j hj => h j (List.mem_range.1 hj)
theorem struct_self {P : Program} {d : Nat} {t : TypeId} {xs : Array Value} (hu : P.underlying t = some (.struct (P.fieldsOf t))) (hp : P.stoodInHeld t = false) (h : ∀ f ∈ (P.fieldsOf t).toList, PieceSelf P d f.type xs f.offset) (W : World) :
    (Op.equalIn (d + 1) t (.agg xs) (.agg xs)).run P W = .ok true W := by
  rw [run_equalIn_struct W d t xs xs hu hp]
  exact eqFields_self d xs _ W h
/-- A piece that is an array or a struct itself. -/
theorem piece_agg {P : Program} {d off sz : Nat} {t : TypeId} {D : TypeDesc} {xs : Array Value} (hu : P.underlying t = some D) (hD : aggD D = true) (hs : (P.info? t).map (·.size) = some sz)
    (h : ∀ W : World, (Op.equalIn d t (.agg (xs.extract off (off + sz))) (.agg (xs.extract off (off + sz)))).run P W = .ok true W) : PieceSelf P d t xs off := fun W => by
  refine ⟨.agg (xs.extract off (off + sz)), ?_, h W⟩
  cases hq : P.info? t with
  | none => simp [hq] at hs
  | some j =>
    have hs' : j.size = sz := by simpa [hq] using hs
    simp [part, Sem.run_bind, run_isAgg_yes hu hD, sizeOf, typeInfo, hq, hs']
end Go.Proofs.YtbiompjhenkieaaGreat

namespace Go.Proofs.YtbiompjhenkieaaGreat
open Go.RowKit
set_option maxRecDepth 100000

theorem grade_self (d : Nat) (s t : Int) (W : World) : (Op.equalIn (d + 2) 61 (.agg #[.int .i64 s, .int .i64 t]) (.agg #[.int .i64 s, .int .i64 t])).run Tryz.prog W = .ok true W := by
  refine struct_self (d := d + 1) Tryz.underlying61 (by kernel_rfl) (fun f hf => ?_) W
  simp only [Program.fieldsOf, Tryz.underlying61, List.mem_cons, List.not_mem_nil, or_false] at hf
  rcases hf with rfl | rfl
  · exact piece_int Tryz.underlying3 (k := .i64) (n := s) rfl
  · exact piece_int Tryz.underlying3 (k := .i64) (n := t) rfl

theorem cells_grade : Tryz.prog.cellsOf 61 = 2 := by kernel_rfl
theorem cells_intp : Tryz.prog.cellsOf 3 = 1 := by kernel_rfl
theorem info_fees : (Tryz.prog.info? 59).map (·.size) = some 4 := by kernel_rfl
theorem info_grades : (Tryz.prog.info? 62).map (·.size) = some 8 := by kernel_rfl
theorem info_grade : (Tryz.prog.info? 61).map (·.size) = some 2 := by kernel_rfl
theorem info_some {P : Program} {t : TypeId} {n : Nat} (h : (P.info? t).map (·.size) = some n) : ∃ i, P.info? t = some i := by
  cases hq : P.info? t with
  | none => simp [hq] at h
  | some i => exact ⟨i, rfl⟩

theorem pol_self (d : Nat) (p : Pol) (W : World) : (Op.equalIn (d + 4) 64 (.agg p.arr) (.agg p.arr)).run Tryz.prog W = .ok true W := by
  refine struct_self (d := d + 3) Tryz.underlying64 (by kernel_rfl) (fun f hf => ?_) W
  simp only [Program.fieldsOf, Tryz.underlying64, List.mem_cons, List.not_mem_nil, or_false] at hf
  rcases hf with rfl | rfl | rfl | rfl | rfl | rfl
  · exact piece_int Tryz.underlying3 (k := .i64) (n := p.win) rfl
  · exact piece_bool Tryz.underlying4 (b := p.fin) rfl
  · exact piece_bool Tryz.underlying4 (b := p.exc) rfl
  · exact piece_bool Tryz.underlying4 (b := p.cre) rfl
  · refine piece_agg Tryz.underlying59 rfl info_fees fun W => ?_
    obtain ⟨i, hi⟩ : ∃ i, Tryz.prog.info? 3 = some i := ⟨_, rfl⟩
    refine array_self (d := d + 2) Tryz.underlying59 hi (fun j hj => ?_) W
    rw [cells_intp]
    match j, hj with
    | 0, _ => exact piece_int Tryz.underlying3 (k := .i64) (n := p.fee 0) rfl
    | 1, _ => exact piece_int Tryz.underlying3 (k := .i64) (n := p.fee 1) rfl
    | 2, _ => exact piece_int Tryz.underlying3 (k := .i64) (n := p.fee 2) rfl
    | 3, _ => exact piece_int Tryz.underlying3 (k := .i64) (n := p.fee 3) rfl
  · refine piece_agg Tryz.underlying62 rfl info_grades fun W => ?_
    obtain ⟨i, hi⟩ := info_some info_grade
    refine array_self (d := d + 2) Tryz.underlying62 hi (fun j hj => ?_) W
    rw [cells_grade]
    refine piece_agg Tryz.underlying61 rfl info_grade fun W => ?_
    match j, hj with
    | 0, _ => exact grade_self d (p.share 0) (p.dest 0) W
    | 1, _ => exact grade_self d (p.share 1) (p.dest 1) W
    | 2, _ => exact grade_self d (p.share 2) (p.dest 2) W
    | 3, _ => exact grade_self d (p.share 3) (p.dest 3) W
end Go.Proofs.YtbiompjhenkieaaGreat

namespace Go.Proofs.YtbiompjhenkieaaGreat
open Go.RowKit
set_option maxRecDepth 100000

/-- Whether a piece of one value is equal to that of another. -/
def PieceEq (P : Program) (d : Nat) (t : TypeId) (xs ys : Array Value) (off : Nat) (b : Bool) : Prop := ∀ W : World, ∃ u v, (part t xs off).run P W = .ok u W ∧ (part t ys off).run P W = .ok v W ∧ (Op.equalIn d t u v).run P W = .ok b W
theorem eqFields_nil {P : Program} (d : Nat) (xs ys : Array Value) (W : World) : (Op.eqFields d xs ys []).run P W = .ok true W := by simp [Op.eqFields]
theorem eqFields_cons {P : Program} {d : Nat} {xs ys : Array Value} {f : Field} {fs : List Field} {b c : Bool} (hn : f.name ≠ "_") (h : PieceEq P d f.type xs ys f.offset b) (ih : ∀ W, (Op.eqFields d xs ys fs).run P W = .ok c W) (W : World) :
    (Op.eqFields d xs ys (f :: fs)).run P W = .ok (b && c) W := by
  obtain ⟨u, v, h1, h2, h3⟩ := h W
  unfold Op.eqFields
  rw [if_pos hn]
  simp only [Sem.run_bind, h1, h2, h3, Result.andThen_ok]
  cases b
  · simp
  · simpa using ih W
theorem eqItems_nil {P : Program} (d : Nat) (e : TypeId) (c : Nat) (xs ys : Array Value) (W : World) : (Op.eqItems d e c xs ys []).run P W = .ok true W := by simp [Op.eqItems]
theorem eqItems_cons {P : Program} {d : Nat} {e : TypeId} {n : Nat} {xs ys : Array Value} {i : Nat} {is : List Nat} {b c : Bool} (h : PieceEq P d e xs ys (i * n) b) (ih : ∀ W, (Op.eqItems d e n xs ys is).run P W = .ok c W) (W : World) :
    (Op.eqItems d e n xs ys (i :: is)).run P W = .ok (b && c) W := by
  obtain ⟨u, v, h1, h2, h3⟩ := h W
  simp only [Op.eqItems, Sem.run_bind, h1, h2, h3, Result.andThen_ok]
  cases b
  · simp
  · simpa using ih W
theorem pieceEq_int {P : Program} {d off : Nat} {t : TypeId} {k k' : IntKind} {xs ys : Array Value} {n m : Int} (ht : P.underlying t = some (.int k')) (hx : xs[off]? = some (.int k n)) (hy : ys[off]? = some (.int k m)) : PieceEq P (d + 1) t xs ys off (n == m) := fun W =>
  ⟨.int k n, .int k m, by simp [part, Sem.run_bind, run_isAgg_no ht rfl, hx], by simp [part, Sem.run_bind, run_isAgg_no ht rfl, hy], by rw [run_equalIn_int W d t k k' n m ht]⟩
theorem pieceEq_bool {P : Program} {d off : Nat} {t : TypeId} {xs ys : Array Value} {b c : Bool} (ht : P.underlying t = some .bool) (hx : xs[off]? = some (.bool b)) (hy : ys[off]? = some (.bool c)) : PieceEq P (d + 1) t xs ys off (b == c) := fun W =>
  ⟨.bool b, .bool c, by simp [part, Sem.run_bind, run_isAgg_no ht rfl, hx], by simp [part, Sem.run_bind, run_isAgg_no ht rfl, hy], by rw [run_equalIn_bool' W d t b c ht]⟩
theorem pieceEq_agg {P : Program} {d off sz : Nat} {t : TypeId} {D : TypeDesc} {xs ys : Array Value} {b : Bool} (hu : P.underlying t = some D) (hD : aggD D = true) (hs : (P.info? t).map (·.size) = some sz)
    (h : ∀ W : World, (Op.equalIn d t (.agg (xs.extract off (off + sz))) (.agg (ys.extract off (off + sz)))).run P W = .ok b W) : PieceEq P d t xs ys off b := fun W => by
  refine ⟨.agg (xs.extract off (off + sz)), .agg (ys.extract off (off + sz)), ?_, ?_, h W⟩
  all_goals
    cases hq : P.info? t with
    | none => simp [hq] at hs
    | some j =>
      have hs' : j.size = sz := by simpa [hq] using hs
      simp [part, Sem.run_bind, run_isAgg_yes hu hD, sizeOf, typeInfo, hq, hs']
theorem array_eq {P : Program} {d n : Nat} {t e : TypeId} {i : TypeInfo} {xs ys : Array Value} {b : Bool} (hu : P.underlying t = some (.array n e)) (hi : P.info? e = some i) (h : ∀ W, (Op.eqItems d e (P.cellsOf e) xs ys (List.range n)).run P W = .ok b W) (W : World) :
    (Op.equalIn (d + 1) t (.agg xs) (.agg ys)).run P W = .ok b W := by
  rw [run_equalIn_array W d xs ys hu hi]
  exact h W
theorem struct_eq {P : Program} {d : Nat} {t : TypeId} {xs ys : Array Value} {b : Bool} (hu : P.underlying t = some (.struct (P.fieldsOf t))) (hp : P.stoodInHeld t = false) (h : ∀ W, (Op.eqFields d xs ys (P.fieldsOf t).toList).run P W = .ok b W) (W : World) :
    (Op.equalIn (d + 1) t (.agg xs) (.agg ys)).run P W = .ok b W := by
  rw [run_equalIn_struct W d t xs ys hu hp]
  exact h W
end Go.Proofs.YtbiompjhenkieaaGreat

namespace Go.Proofs.YtbiompjhenkieaaGreat
open Go.RowKit
set_option maxRecDepth 100000

/-- What a right policy's numbers are. -/
structure RightP (p : Pol) : Prop where
  win : 0 ≤ p.win ∧ p.win ≤ 1000
  fee : ∀ k, k < 4 → 0 ≤ p.fee k ∧ p.fee k ≤ 10000
  share : ∀ k, k < 4 → 0 ≤ p.share k ∧ p.share k ≤ 10000
  dest : ∀ k, k < 4 → 0 ≤ p.dest k ∧ p.dest k ≤ 5
theorem rightP_facts {p : Pol} (h : rightP p = true) : RightP p := by
  unfold rightP at h
  rw [Bool.and_eq_true, List.all_eq_true] at h
  obtain ⟨h1, h2⟩ := h
  have key : ∀ k, k < 4 → ptB (p.fee k) = true ∧ gradeB (p.share k) (p.dest k) = true := fun k hk => by
    have := h1 k (List.mem_range.2 hk)
    rwa [Bool.and_eq_true] at this
  refine ⟨of_decide_eq_true h2, fun k hk => ?_, fun k hk => ?_, fun k hk => ?_⟩
  · have := (key k hk).1
    unfold ptB at this
    exact of_decide_eq_true this
  · have := (key k hk).2
    unfold gradeB ptB at this
    rw [Bool.and_eq_true] at this
    exact of_decide_eq_true this.1
  · have := (key k hk).2
    simp [gradeB] at this
    omega

end Go.Proofs.YtbiompjhenkieaaGreat
