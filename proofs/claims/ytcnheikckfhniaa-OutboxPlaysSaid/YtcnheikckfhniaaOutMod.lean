/-
  The law's own: Same, again. Conditions: those of each theorem.
-/
import Derived.Test.YtcnheikckfhniaaOutLaw
import Derived.Test.YtcnheikckfhniaaOutAgn
namespace Go.Proofs.Ytcnheikckfhniaa
open Go.RowKit
set_option maxRecDepth 100000

theorem law_same {w : World} {a b : Option Addr} {n c d : Nat} {xs : List Msg} (ha : MRow w a xs) (hb : MRow w b xs) (hn : xs.length = n) (hf : n ≤ 1000) : Calls Try.prog 15 #[.slice a n c, .slice b n d] w fun e w' => e = .returned (.bool true) ∧ Below w.heap.size w w' := by
  subst hn
  have HA : Aside (MRow w a xs) := ha
  have HB : Aside (MRow w b xs) := hb
  clear ha hb
  go_enter Try.func15, Try.ntmps15
  go_wp2
  go_loopw [13] (fun i wr => ∃ k : Nat, k ≤ xs.length ∧ i = .int .i64 k ∧ Aside (Below w.heap.size w wr)) (fun i _ => xs.length - (intOf i).toNat)
  case atStart => exact ⟨0, Nat.zero_le _, rfl, Below.refl _ _⟩
  case round =>
    obtain ⟨k, hk, rfl, HW⟩ := hrel
    by_cases hlt : k < xs.length
    · have hkz : (k : Int) < (xs.length : Int) := by omega
      obtain ⟨b1, o1, rfl, hb1, hc1⟩ := (HA.out.below HW.out).at_ (by omega)
      obtain ⟨b2, o2, rfl, hb2, hc2⟩ := (HB.out.below HW.out).at_ (by omega)
      obtain ⟨x0, x1, x2, x3, x4, x5⟩ := hc1 k hlt
      obtain ⟨y0, y1, y2, y3, y4, y5⟩ := hc2 k hlt
      have heq := ref_self 9998 (mget xs k)
      clear hc1 hc2
      generalize mget xs k = m at *
      obtain ⟨mk, mi, mr, mv, mt, mu⟩ := m
      dsimp only at *
      go_wp2_with fail
      go_quiet (fail)
      go_wp2
      go_roundw
      case rel => exact ⟨k + 1, by omega, by go_num, HW.out.trans ⟨rfl, rfl, rfl, Nat.le_refl _, fun _ _ => rfl⟩⟩
      case measure => simp [intOf]; omega
    · obtain rfl : k = xs.length := by omega
      clear HA HB
      go_wp2
      go_ret
      exact ⟨rfl, HW.out⟩

/-! ### again -/
theorem agn_no {now : Int} (xs : List Msg) {m : Msg} (h : ¬ m.due ≤ now) : agSaid now ((xs ++ [m]).filter (dueB now)) = agSaid now (xs.filter (dueB now)) ∧ agOver ((xs ++ [m]).filter (dueB now)) = agOver (xs.filter (dueB now)) ∧ agLeft now (xs ++ [m]) = agLeft now xs ++ [m] := by
  have e : dueB now m = false := decide_eq_false h
  refine ⟨by simp [e], by simp [e], by simp [agLeft, e]⟩
theorem agn_over {now : Int} (xs : List Msg) {m : Msg} (h : m.due ≤ now) (ho : overB m = true) : agSaid now ((xs ++ [m]).filter (dueB now)) = agSaid now (xs.filter (dueB now)) ∧ agOver ((xs ++ [m]).filter (dueB now)) = agOver (xs.filter (dueB now)) ++ [m] ∧ agLeft now (xs ++ [m]) = agLeft now xs := by
  have e : dueB now m = true := decide_eq_true h
  refine ⟨by simp [e, agSaid_snoc, ho], by simp [e, agOver_snoc, ho], by simp [agLeft, e, ho]⟩
theorem agn_said {now : Int} (xs : List Msg) {m : Msg} (h : m.due ≤ now) (ho : overB m = false) : agSaid now ((xs ++ [m]).filter (dueB now)) = agSaid now (xs.filter (dueB now)) ++ [said m now] ∧ agOver ((xs ++ [m]).filter (dueB now)) = agOver (xs.filter (dueB now)) ∧ agLeft now (xs ++ [m]) = agLeft now xs ++ [said m now] := by
  have e : dueB now m = true := decide_eq_true h
  refine ⟨by simp [e, agSaid_snoc, ho], by simp [e, agOver_snoc, ho], by simp [agLeft, e, ho]⟩
/-- Three rows of the law's own. -/
structure Tri (w wr : World) (a1 : Option Addr) (n1 c1 : Nat) (xs1 : List Msg) (a2 : Option Addr) (n2 c2 : Nat) (xs2 : List Msg) (a3 : Option Addr) (n3 c3 : Nat) (xs3 : List Msg) : Prop where
  r1 : wr.ownsRow w.heap.size 30 6 (.slice a1 n1 c1) n1 (mcells xs1)
  r2 : wr.ownsRow w.heap.size 30 6 (.slice a2 n2 c2) n2 (mcells xs2)
  r3 : wr.ownsRow w.heap.size 30 6 (.slice a3 n3 c3) n3 (mcells xs3)
  d12 : ∀ q, (Value.slice a1 n1 c1).ownBlock = some q → (Value.slice a2 n2 c2).ownBlock ≠ some q
  d13 : ∀ q, (Value.slice a1 n1 c1).ownBlock = some q → (Value.slice a3 n3 c3).ownBlock ≠ some q
  d23 : ∀ q, (Value.slice a2 n2 c2).ownBlock = some q → (Value.slice a3 n3 c3).ownBlock ≠ some q
  bl : Below w.heap.size w wr
section
variable {w wr w1 w2 : World} {a1 a2 a3 a4 : Option Addr} {n1 n2 n3 c1 c2 c3 c4 : Nat} {xs1 xs2 xs3 ys : List Msg}
theorem Tri.below (h : Tri w wr a1 n1 c1 xs1 a2 n2 c2 xs2 a3 n3 c3 xs3) (hb : Below wr.heap.size wr w1) : Tri w w1 a1 n1 c1 xs1 a2 n2 c2 xs2 a3 n3 c3 xs3 :=
  ⟨ownsRow_upd (S := fun _ => False) h.r1 (Upd.below hb) (fun _ _ x => x), ownsRow_upd (S := fun _ => False) h.r2 (Upd.below hb) (fun _ _ x => x), ownsRow_upd (S := fun _ => False) h.r3 (Upd.below hb) (fun _ _ x => x), h.d12, h.d13, h.d23, h.bl.trans (hb.mono h.bl.size)⟩
theorem Tri.app1 (h : Tri w wr a1 n1 c1 xs1 a2 n2 c2 xs2 a3 n3 c3 xs3) (r : w2.ownsRow w.heap.size 30 6 (.slice a4 (n1 + 1) c4) (n1 + 1) (mcells ys)) (u : Upd (fun q => (Value.slice a1 n1 c1).ownBlock = some q) wr w2) (l : ∀ q, (Value.slice a4 (n1 + 1) c4).ownBlock = some q → (Value.slice a1 n1 c1).ownBlock = some q ∨ wr.heap.size ≤ q) : Tri w w2 a4 (n1 + 1) c4 ys a2 n2 c2 xs2 a3 n3 c3 xs3 := by
  refine ⟨r, ownsRow_upd h.r2 u (fun q hq e => h.d12 q e hq), ownsRow_upd h.r3 u (fun q hq e => h.d13 q e hq), fun q hq e => ?_, fun q hq e => ?_, h.d23, h.bl.trans (u.toBelow h.bl.size (fun k hk e => by have := own_base h.r1 e; omega))⟩
  · rcases l q hq with x | x
    · exact h.d12 q x e
    · have := own_in h.r2 e; omega
  · rcases l q hq with x | x
    · exact h.d13 q x e
    · have := own_in h.r3 e; omega
theorem Tri.app2 (h : Tri w wr a1 n1 c1 xs1 a2 n2 c2 xs2 a3 n3 c3 xs3) (r : w2.ownsRow w.heap.size 30 6 (.slice a4 (n2 + 1) c4) (n2 + 1) (mcells ys)) (u : Upd (fun q => (Value.slice a2 n2 c2).ownBlock = some q) wr w2) (l : ∀ q, (Value.slice a4 (n2 + 1) c4).ownBlock = some q → (Value.slice a2 n2 c2).ownBlock = some q ∨ wr.heap.size ≤ q) : Tri w w2 a1 n1 c1 xs1 a4 (n2 + 1) c4 ys a3 n3 c3 xs3 := by
  refine ⟨ownsRow_upd h.r1 u (fun q hq e => h.d12 q hq e), r, ownsRow_upd h.r3 u (fun q hq e => h.d23 q e hq), fun q hq e => ?_, h.d13, fun q hq e => ?_, h.bl.trans (u.toBelow h.bl.size (fun k hk e => by have := own_base h.r2 e; omega))⟩
  · rcases l q e with x | x
    · exact h.d12 q hq x
    · have := own_in h.r1 hq; omega
  · rcases l q hq with x | x
    · exact h.d23 q x e
    · have := own_in h.r3 e; omega
theorem Tri.app3 (h : Tri w wr a1 n1 c1 xs1 a2 n2 c2 xs2 a3 n3 c3 xs3) (r : w2.ownsRow w.heap.size 30 6 (.slice a4 (n3 + 1) c4) (n3 + 1) (mcells ys)) (u : Upd (fun q => (Value.slice a3 n3 c3).ownBlock = some q) wr w2) (l : ∀ q, (Value.slice a4 (n3 + 1) c4).ownBlock = some q → (Value.slice a3 n3 c3).ownBlock = some q ∨ wr.heap.size ≤ q) : Tri w w2 a1 n1 c1 xs1 a2 n2 c2 xs2 a4 (n3 + 1) c4 ys := by
  refine ⟨ownsRow_upd h.r1 u (fun q hq e => h.d13 q hq e), ownsRow_upd h.r2 u (fun q hq e => h.d23 q hq e), r, h.d12, fun q hq e => ?_, fun q hq e => ?_, h.bl.trans (u.toBelow h.bl.size (fun k hk e => by have := own_base h.r3 e; omega))⟩
  · rcases l q e with x | x
    · exact h.d13 q hq x
    · have := own_in h.r1 hq; omega
  · rcases l q e with x | x
    · exact h.d23 q hq x
    · have := own_in h.r2 hq; omega
theorem Tri.start (w : World) : Tri w w none 0 0 [] none 0 0 [] none 0 0 [] :=
  ⟨World.ownsRow_nil _ _ _ _, World.ownsRow_nil _ _ _ _, World.ownsRow_nil _ _ _ _, (fun q hq => by cases hq), (fun q hq => by cases hq), (fun q hq => by cases hq), Below.refl _ _⟩
end
/-- What again tells. -/
def ModAgain (w : World) (now : Int) (xs : List Msg) (e : Ending) (w' : World) : Prop :=
  ∃ a1 c1 a2 c2 a3 c3, e = .returned (.tuple #[.slice a1 (agSaid now (xs.filter (dueB now))).length c1, .slice a2 (agOver (xs.filter (dueB now))).length c2, .slice a3 (agLeft now xs).length c3]) ∧
    Tri w w' a1 (agSaid now (xs.filter (dueB now))).length c1 (agSaid now (xs.filter (dueB now))) a2 (agOver (xs.filter (dueB now))).length c2 (agOver (xs.filter (dueB now))) a3 (agLeft now xs).length c3 (agLeft now xs)
theorem cells_arr {w : World} {B : Nat} {a b c d e f : Int} (h : ArrAt w B 0 #[.int .i64 a, .int .i64 b, .int .i64 c, .int .i64 d, .int .i64 e, .int .i64 f]) : w.cell? ⟨B, 0, none⟩ = some (.int .i64 a) ∧ w.cell? ⟨B, 1, none⟩ = some (.int .i64 b) ∧ w.cell? ⟨B, 2, none⟩ = some (.int .i64 c) ∧ w.cell? ⟨B, 3, none⟩ = some (.int .i64 d) ∧ w.cell? ⟨B, 4, none⟩ = some (.int .i64 e) ∧ w.cell? ⟨B, 5, none⟩ = some (.int .i64 f) :=
  ⟨h.cells 0 _ rfl, h.cells 1 _ rfl, h.cells 2 _ rfl, h.cells 3 _ rfl, h.cells 4 _ rfl, h.cells 5 _ rfl⟩
set_option maxHeartbeats 4000000 in
theorem law_again {w : World} {a : Option Addr} {n c : Nat} {xs : List Msg} (hr : MRow w a xs) (hn : xs.length = n) (hf : n ≤ 1000) (htr : ∀ m ∈ xs, 0 ≤ m.tries ∧ m.tries < 1000000) (now : Int) (hnow : -(1099511627776) ≤ now ∧ now ≤ 1099511627776) :
    Calls Try.prog 14 #[.slice a n c, .int .i64 now] w (ModAgain w now xs) := by
  subst hn
  have HR : Aside (MRow w a xs) := hr
  have HTR : Aside (∀ m ∈ xs, 0 ≤ m.tries ∧ m.tries < 1000000) := htr
  clear hr htr
  go_enter Try.func14, Try.ntmps14
  go_wp2
  go_loopw [7, 8, 9, 14] (fun s7 s8 s9 i wr => ∃ (k : Nat) (a1 : Option Addr) (n1 c1 : Nat) (a2 : Option Addr) (n2 c2 : Nat) (a3 : Option Addr) (n3 c3 : Nat), k ≤ xs.length ∧ n1 ≤ k ∧ n2 ≤ k ∧ n3 ≤ k ∧ i = .int .i64 k ∧ s7 = .slice a1 n1 c1 ∧ s8 = .slice a2 n2 c2 ∧ s9 = .slice a3 n3 c3 ∧
    Aside (Tri w wr a1 n1 c1 (agSaid now ((xs.take k).filter (dueB now))) a2 n2 c2 (agOver ((xs.take k).filter (dueB now))) a3 n3 c3 (agLeft now (xs.take k)))) (fun _ _ _ i _ => xs.length - (intOf i).toNat)
  case atStart => exact ⟨0, none, 0, 0, none, 0, 0, none, 0, 0, Nat.zero_le _, Nat.le_refl _, Nat.le_refl _, Nat.le_refl _, rfl, rfl, rfl, rfl, Tri.start w⟩
  case round =>
    obtain ⟨k, a1, n1, c1, a2, n2, c2, a3, n3, c3, hk, hn1, hn2, hn3, rfl, rfl, rfl, rfl, HT⟩ := hrel
    by_cases hlt : k < xs.length
    · have hkz : (k : Int) < (xs.length : Int) := by omega
      obtain ⟨b1, o1, rfl, hb1, hc1⟩ := (HR.out.below HT.out.bl).at_ (by omega)
      obtain ⟨x0, x1, x2, x3, x4, x5⟩ := hc1 k hlt
      have HTK : Aside (0 ≤ (mget xs k).tries ∧ (mget xs k).tries < 1000000) := HTR.out _ (mget_mem.2 ⟨k, hlt, rfl⟩)
      have htk := mtake_at hlt
      have HNO : Aside (¬ (mget xs k).due ≤ now → _) := fun h => agn_no (xs.take k) (m := mget xs k) h
      have HOV : Aside ((mget xs k).due ≤ now → overB (mget xs k) = true → _) := fun h ho => agn_over (xs.take k) (m := mget xs k) h ho
      have HSD : Aside ((mget xs k).due ≤ now → overB (mget xs k) = false → _) := fun h ho => agn_said (xs.take k) (m := mget xs k) h ho
      rw [← htk] at HNO HOV HSD
      clear hc1 htk
      generalize mget xs k = m at *
      obtain ⟨mk, mi, mr, mv, mt, mu⟩ := m
      have h1b : n1 < 10000 := by omega
      have h2b : n2 < 10000 := by omega
      have h3b : n3 < 10000 := by omega
      dsimp only at *
      obtain ⟨ht0, ht1⟩ := HTK.out
      by_cases hdue : mu ≤ now
      · by_cases hov : mi = 1 ∧ 5 ≤ mt
        · obtain ⟨hmi, hmt⟩ := hov
          subst hmi
          obtain ⟨E1, E2, E3⟩ := HOV.out hdue (by simp [overB, hmt])
          have T1 : Tri w (wr.alloc (.cells #[.int .i64 mk, .int .i64 1, .int .i64 mr, .int .i64 mv, .int .i64 mt, .int .i64 mu] 30)) a1 n1 c1 (agSaid now ((xs.take k).filter (dueB now))) a2 n2 c2 (agOver ((xs.take k).filter (dueB now))) a3 n3 c3 (agLeft now (xs.take k)) := HT.out.below (upd_box _)
          have HT1 : Aside _ := T1
          have HE : Aside (agSaid now ((xs.take (k + 1)).filter (dueB now)) = agSaid now ((xs.take k).filter (dueB now)) ∧ agOver ((xs.take (k + 1)).filter (dueB now)) = agOver ((xs.take k).filter (dueB now)) ++ [⟨mk, 1, mr, mv, mt, mu⟩] ∧ agLeft now (xs.take (k + 1)) = agLeft now (xs.take k)) := ⟨E1, E2, E3⟩
          have hbs : w.heap.size ≤ (wr.alloc (.cells #[.int .i64 mk, .int .i64 1, .int .i64 mr, .int .i64 mv, .int .i64 mt, .int .i64 mu] 30)).heap.size := T1.bl.size
          have HR2 : Aside (World.ownsRow _ _ _ _ _ _ _) := T1.r2
          clear E1 E2 E3 T1 HNO HOV HSD HT
          go_wp2_with (at_builtin; refine wpList_append_at rfl _ _ 26 30 rfl Try.underlying26 info_refz w.heap.size n2 c2 a2 _ rfl HR2.out ⟨mk, 1, mr, mv, mt, mu⟩ (wr.heap.size + 1) (by simp) rfl h2b hbs (n2 + 1) rfl ?_; intro a4 c4 w7 g1 g3 g4)
          have HN : Aside (Tri w w7 a1 n1 c1 (agSaid now ((xs.take (k + 1)).filter (dueB now))) a4 (n2 + 1) c4 (agOver ((xs.take (k + 1)).filter (dueB now))) a3 n3 c3 (agLeft now (xs.take (k + 1)))) := by
            rw [HE.out.1, HE.out.2.1, HE.out.2.2]
            exact HT1.out.app2 g1 g3 g4
          clear g1 g3 g4 HT1 HR2
          go_wp2
          go_roundw
          case rel => exact ⟨k + 1, a1, n1, c1, a4, n2 + 1, c4, a3, n3, c3, by omega, by omega, by omega, by omega, by go_num, rfl, rfl, rfl, HN.out⟩
          case measure => simp [intOf]; omega
        · have ho : overB ⟨mk, mi, mr, mv, mt, mu⟩ = false := by
            unfold overB
            by_cases hq : mi = 1
            · have h5 : ¬ 5 ≤ mt := fun x => hov ⟨hq, x⟩
              simp [h5]
            · simp [hq]
          obtain ⟨E1, E2, E3⟩ := HSD.out hdue ho
          have HE : Aside (agSaid now ((xs.take (k + 1)).filter (dueB now)) = agSaid now ((xs.take k).filter (dueB now)) ++ [⟨mk, mi, mr, mv, mt + 1, now + waitOf (mt + 1)⟩] ∧ agOver ((xs.take (k + 1)).filter (dueB now)) = agOver ((xs.take k).filter (dueB now)) ∧ agLeft now (xs.take (k + 1)) = agLeft now (xs.take k) ++ [⟨mk, mi, mr, mv, mt + 1, now + waitOf (mt + 1)⟩]) := ⟨E1, E2, E3⟩
          have HW : Aside (∀ w, Calls Try.prog 20 #[.int .i64 (mt + 1)] w fun e w' => e = .returned (.int .i64 (waitOf (mt + 1))) ∧ w = w') := fun w => ref_wait (mt + 1) w
          have hwb := waitOf_bounds (mt + 1)
          generalize waitOf (mt + 1) = wt at *
          have T1 : Tri w (wr.alloc (.cells #[.int .i64 mk, .int .i64 mi, .int .i64 mr, .int .i64 mv, .int .i64 (mt + 1), .int .i64 (now + wt)] 30)) a1 n1 c1 (agSaid now ((xs.take k).filter (dueB now))) a2 n2 c2 (agOver ((xs.take k).filter (dueB now))) a3 n3 c3 (agLeft now (xs.take k)) := HT.out.below (upd_box _)
          have HT1 : Aside _ := T1
          have HWR : Hid (wr.heap.size < (wr.alloc (.cells #[.int .i64 mk, .int .i64 mi, .int .i64 mr, .int .i64 mv, .int .i64 (mt + 1), .int .i64 (now + wt)] 30)).heap.size) := by show _ < _; simp
          have A1 := arr_new wr #[.int .i64 mk, .int .i64 mi, .int .i64 mr, .int .i64 mv, .int .i64 (mt + 1), .int .i64 (now + wt)] 30
          have hbs : w.heap.size ≤ (wr.alloc (.cells #[.int .i64 mk, .int .i64 mi, .int .i64 mr, .int .i64 mv, .int .i64 (mt + 1), .int .i64 (now + wt)] 30)).heap.size := T1.bl.size
          have HR1 : Aside (World.ownsRow _ _ _ _ _ _ _) := T1.r1
          have HXB : Aside (∀ q, (Value.slice a1 n1 c1).ownBlock = some q → q < wr.heap.size) := fun q hq => own_in HT.out.r1 hq
          by_cases hm1 : mi = 1
          · subst hm1
            have hmt : ¬ 5 ≤ mt := fun x => hov ⟨rfl, x⟩
            clear E1 E2 E3 T1 HNO HOV HSD HT ho hov
            go_wp2_with fail
            refine Calls.mono (HW.out _) ?_
            rintro e w3 ⟨rfl, rfl⟩
            go_upto_region 12 with (at_builtin; refine wpList_append_at rfl _ _ 26 30 rfl Try.underlying26 info_refz w.heap.size n1 c1 a1 _ rfl HR1.out ⟨mk, 1, mr, mv, mt + 1, now + wt⟩ (wr.heap.size + 1) (by simp) rfl h1b hbs (n1 + 1) rfl ?_; intro a4 c4 w7 g1 g3 g4)
            have HT2 : Aside (Tri w w7 a4 (n1 + 1) c4 (agSaid now ((xs.take (k + 1)).filter (dueB now))) a2 n2 c2 (agOver ((xs.take (k + 1)).filter (dueB now))) a3 n3 c3 (agLeft now (xs.take k))) := by
              rw [HE.out.1, HE.out.2.1]
              exact HT1.out.app1 g1 g3 g4
            have hx7 : wr.heap.size < w7.heap.size := Nat.lt_of_lt_of_le HWR.out g3.size
            have A7 := A1.upd g3 (fun e => by have := HXB.out _ e; omega)
            obtain ⟨v0, v1, v2, v3, v4, v5⟩ := cells_arr A7
            have HR3 : Aside (w7.ownsRow w.heap.size 30 6 (.slice a3 n3 c3) n3 (mcells (agLeft now (xs.take k)))) := HT2.out.r3
            have hbs7 : w.heap.size ≤ w7.heap.size := HT2.out.bl.size
            clear g1 g3 g4 HT1 HR1 A1 A7 hbs
            go_wp2_with (at_builtin; refine wpList_append_at rfl _ _ 26 30 rfl Try.underlying26 info_refz w.heap.size n3 c3 a3 _ rfl HR3.out ⟨mk, 1, mr, mv, mt + 1, now + wt⟩ w7.heap.size rfl rfl h3b hbs7 (n3 + 1) rfl ?_; intro a5 c5 w8 g1 g3 g4)
            have HN : Aside (Tri w w8 a4 (n1 + 1) c4 (agSaid now ((xs.take (k + 1)).filter (dueB now))) a2 n2 c2 (agOver ((xs.take (k + 1)).filter (dueB now))) a5 (n3 + 1) c5 (agLeft now (xs.take (k + 1)))) := by
              rw [HE.out.2.2]
              exact HT2.out.app3 g1 g3 g4
            clear g1 g3 g4 HT2 HR3
            go_wp2
            go_roundw
            case rel => exact ⟨k + 1, a4, n1 + 1, c4, a2, n2, c2, a5, n3 + 1, c5, by omega, by omega, by omega, by omega, by go_num, rfl, rfl, rfl, HN.out⟩
            case measure => simp [intOf]; omega
          · have hne : (mi == 1) = false := by simpa using hm1
            clear E1 E2 E3 T1 HNO HOV HSD HT ho hov
            go_wp2_with fail
            refine Calls.mono (HW.out _) ?_
            rintro e w3 ⟨rfl, rfl⟩
            go_upto_region 12 with (at_builtin; refine wpList_append_at rfl _ _ 26 30 rfl Try.underlying26 info_refz w.heap.size n1 c1 a1 _ rfl HR1.out ⟨mk, mi, mr, mv, mt + 1, now + wt⟩ (wr.heap.size + 1) (by simp) rfl h1b hbs (n1 + 1) rfl ?_; intro a4 c4 w7 g1 g3 g4)
            have HT2 : Aside (Tri w w7 a4 (n1 + 1) c4 (agSaid now ((xs.take (k + 1)).filter (dueB now))) a2 n2 c2 (agOver ((xs.take (k + 1)).filter (dueB now))) a3 n3 c3 (agLeft now (xs.take k))) := by
              rw [HE.out.1, HE.out.2.1]
              exact HT1.out.app1 g1 g3 g4
            have hx7 : wr.heap.size < w7.heap.size := Nat.lt_of_lt_of_le HWR.out g3.size
            have A7 := A1.upd g3 (fun e => by have := HXB.out _ e; omega)
            obtain ⟨v0, v1, v2, v3, v4, v5⟩ := cells_arr A7
            have HR3 : Aside (w7.ownsRow w.heap.size 30 6 (.slice a3 n3 c3) n3 (mcells (agLeft now (xs.take k)))) := HT2.out.r3
            have hbs7 : w.heap.size ≤ w7.heap.size := HT2.out.bl.size
            clear g1 g3 g4 HT1 HR1 A1 A7 hbs
            go_wp2_with (at_builtin; refine wpList_append_at rfl _ _ 26 30 rfl Try.underlying26 info_refz w.heap.size n3 c3 a3 _ rfl HR3.out ⟨mk, mi, mr, mv, mt + 1, now + wt⟩ w7.heap.size rfl rfl h3b hbs7 (n3 + 1) rfl ?_; intro a5 c5 w8 g1 g3 g4)
            have HN : Aside (Tri w w8 a4 (n1 + 1) c4 (agSaid now ((xs.take (k + 1)).filter (dueB now))) a2 n2 c2 (agOver ((xs.take (k + 1)).filter (dueB now))) a5 (n3 + 1) c5 (agLeft now (xs.take (k + 1)))) := by
              rw [HE.out.2.2]
              exact HT2.out.app3 g1 g3 g4
            clear g1 g3 g4 HT2 HR3
            go_wp2
            go_roundw
            case rel => exact ⟨k + 1, a4, n1 + 1, c4, a2, n2, c2, a5, n3 + 1, c5, by omega, by omega, by omega, by omega, by go_num, rfl, rfl, rfl, HN.out⟩
            case measure => simp [intOf]; omega
      · obtain ⟨E1, E2, E3⟩ := HNO.out hdue
        have T1 : Tri w (wr.alloc (.cells #[.int .i64 mk, .int .i64 mi, .int .i64 mr, .int .i64 mv, .int .i64 mt, .int .i64 mu] 30)) a1 n1 c1 (agSaid now ((xs.take k).filter (dueB now))) a2 n2 c2 (agOver ((xs.take k).filter (dueB now))) a3 n3 c3 (agLeft now (xs.take k)) := HT.out.below (upd_box _)
        have HT1 : Aside _ := T1
        have HE : Aside (agSaid now ((xs.take (k + 1)).filter (dueB now)) = agSaid now ((xs.take k).filter (dueB now)) ∧ agOver ((xs.take (k + 1)).filter (dueB now)) = agOver ((xs.take k).filter (dueB now)) ∧ agLeft now (xs.take (k + 1)) = agLeft now (xs.take k) ++ [⟨mk, mi, mr, mv, mt, mu⟩]) := ⟨E1, E2, E3⟩
        have hbs : w.heap.size ≤ (wr.alloc (.cells #[.int .i64 mk, .int .i64 mi, .int .i64 mr, .int .i64 mv, .int .i64 mt, .int .i64 mu] 30)).heap.size := T1.bl.size
        have HR3 : Aside (World.ownsRow _ _ _ _ _ _ _) := T1.r3
        clear E1 E2 E3 T1 HNO HOV HSD HT
        go_wp2_with (at_builtin; refine wpList_append_at rfl _ _ 26 30 rfl Try.underlying26 info_refz w.heap.size n3 c3 a3 _ rfl HR3.out ⟨mk, mi, mr, mv, mt, mu⟩ (wr.heap.size + 1) (by simp) rfl h3b hbs (n3 + 1) rfl ?_; intro a4 c4 w7 g1 g3 g4)
        have HN : Aside (Tri w w7 a1 n1 c1 (agSaid now ((xs.take (k + 1)).filter (dueB now))) a2 n2 c2 (agOver ((xs.take (k + 1)).filter (dueB now))) a4 (n3 + 1) c4 (agLeft now (xs.take (k + 1)))) := by
          rw [HE.out.1, HE.out.2.1, HE.out.2.2]
          exact HT1.out.app3 g1 g3 g4
        clear g1 g3 g4 HT1 HR3
        go_wp2
        go_roundw
        case rel => exact ⟨k + 1, a1, n1, c1, a2, n2, c2, a4, n3 + 1, c4, by omega, by omega, by omega, by omega, by go_num, rfl, rfl, rfl, HN.out⟩
        case measure => simp [intOf]; omega
    · obtain rfl : k = xs.length := by omega
      have HF : Aside (ModAgain w now xs (.returned (.tuple #[.slice a1 n1 c1, .slice a2 n2 c2, .slice a3 n3 c3])) wr) := by
        have h := HT.out
        rw [List.take_length] at h
        have l1 : n1 = (agSaid now (xs.filter (dueB now))).length := by have := h.r1.1; rw [mcells_length] at this; omega
        have l2 : n2 = (agOver (xs.filter (dueB now))).length := by have := h.r2.1; rw [mcells_length] at this; omega
        have l3 : n3 = (agLeft now xs).length := by have := h.r3.1; rw [mcells_length] at this; omega
        subst l1 l2 l3
        exact ⟨a1, c1, a2, c2, a3, c3, rfl, h⟩
      clear HT HR HTR
      go_wp2
      go_ret3
      exact HF.out
end Go.Proofs.Ytcnheikckfhniaa
