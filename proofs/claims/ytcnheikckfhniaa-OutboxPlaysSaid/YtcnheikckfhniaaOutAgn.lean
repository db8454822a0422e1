/-
  Package outbox: Again, whole. Conditions: those of each theorem.
-/
import Derived.Test.YtcnheikckfhniaaOutAgain
namespace Go.Proofs.Ytcnheikckfhniaa
open Go.RowKit
set_option maxRecDepth 100000

theorem out_again_nil (now : Int) (w : World) : Calls Try.prog 13 #[.pointer none, .int .i64 now] w fun e w' => e = .returned (.tuple #[.slice none 0 0, .slice none 0 0]) ∧ w = w' := by
  go_enter Try.func13, Try.ntmps13
  go_wp2
  go_ret2
  exact ⟨rfl, rfl⟩
/-- What Again answers, and leaves. -/
def AgainOf (w : World) (p : Nat) (S : Nat → Prop) (last now : Int) (xs : List Msg) (e : Ending) (w' : World) : Prop :=
  ∃ (a1 : Option Addr) (c1 : Nat) (a2 : Option Addr) (c2 : Nat) (S' : Nat → Prop), e = .returned (.tuple #[.slice a1 (agSaid now (xs.filter (dueB now))).length c1, .slice a2 (agOver (xs.filter (dueB now))).length c2]) ∧
    w'.ownsRow w.heap.size 31 6 (.slice a1 (agSaid now (xs.filter (dueB now))).length c1) (agSaid now (xs.filter (dueB now))).length (mcells (agSaid now (xs.filter (dueB now)))) ∧
    w'.ownsRow w.heap.size 31 6 (.slice a2 (agOver (xs.filter (dueB now))).length c2) (agOver (xs.filter (dueB now))).length (mcells (agOver (xs.filter (dueB now)))) ∧
    OutAt w' p S' last (agLeft now xs) ∧ (∀ k, S' k → (S k ∨ w.heap.size ≤ k) ∧ k < w'.heap.size) ∧ Upd S w w'
set_option maxHeartbeats 4000000 in
theorem out_again {w : World} {p : Nat} {S : Nat → Prop} {last : Int} {xs : List Msg} (h : OutAt w p S last xs) (hS : ∀ k, S k → k < w.heap.size) (hr : Rise xs) (htr : ∀ m ∈ xs, 0 ≤ m.tries ∧ m.tries < 1000000) (hfew : xs.length < 900) (now : Int) (hnow : -(1099511627776) ≤ now ∧ now ≤ 1099511627776) :
    Calls Try.prog 13 #[.pointer (some ⟨p, 0, none⟩), .int .i64 now] w (AgainOf w p S last now xs) := by
  have HDU : Aside (Calls Try.prog 25 #[.pointer (some ⟨p, 2, none⟩), .int .i64 now] w (DueOf w p S last xs now)) := out_due h now
  have hpl := h.lt
  have HS : Aside (∀ k, S k → k < w.heap.size) := hS
  have hdl : (xs.filter (dueB now)).length ≤ xs.length := List.length_filter_le _ _
  have HRS : Aside (((xs.filter (dueB now)).map (·.key)).Pairwise (fun x y => x ≤ y)) := List.pairwise_map.2 ((hr.filter _).imp (fun h => by omega))
  have HDS : Aside (∀ i, i < (xs.filter (dueB now)).length → (0 ≤ (mget (xs.filter (dueB now)) i).tries ∧ (mget (xs.filter (dueB now)) i).tries < 1000000) ∧ 1 ≤ (mget (xs.filter (dueB now)) i).key ∧ (mget (xs.filter (dueB now)) i).key ≤ last) := fun i hi => by
    have : mget (xs.filter (dueB now)) i ∈ xs := (List.mem_filter.1 (mget_mem.2 ⟨i, hi, rfl⟩)).1
    exact ⟨htr _ this, h.keys _ this⟩
  have HALL : Aside (∀ {w'' : World} {S' : Nat → Prop}, OutSt w'' p S' last (agNow now (xs.filter (dueB now)) (xs.filter (fun m => !dueB now m)) (xs.filter (dueB now)).length) (agTms now (xs.filter (dueB now)) (xs.filter (fun m => !dueB now m)) (xs.filter (dueB now)).length) → OutAt w'' p S' last (agLeft now xs)) := fun h9 => by
    refine OutSt.perm h9 (agNow_all now xs) ?_
    have h8 := (agNow_all now xs).map tmOf
    refine List.Perm.trans ?_ h8
    unfold agTms agNow
    rw [List.drop_length, List.nil_append]
    exact List.perm_append_comm.map _
  have HNL : Aside (∀ j, j ≤ (xs.filter (dueB now)).length → (agNow now (xs.filter (dueB now)) (xs.filter (fun m => !dueB now m)) j).length ≤ xs.length ∧ (agTms now (xs.filter (dueB now)) (xs.filter (fun m => !dueB now m)) j).length ≤ xs.length) := fun j hj => by
    have a1 := (List.filter_append_perm (dueB now) xs).length_eq
    rw [List.length_append] at a1
    have a2 : (agSaid now ((xs.filter (dueB now)).take j)).length ≤ j := by
      unfold agSaid
      rw [List.length_map]
      refine Nat.le_trans (List.length_filter_le _ _) ?_
      rw [List.length_take]
      omega
    unfold agNow agTms
    rw [List.length_map, List.length_append, List.length_append, List.length_append, List.length_drop]
    omega
  have HST : Aside (∀ {wd ws : World} {b o c0 : Nat}, OutSt wd p S last xs ((xs.filter (fun m => !dueB now m)).map tmOf) → Upd S w wd → Upd (fun q => q = b) wd ws → w.heap.size ≤ b → b < wd.heap.size → (∀ i, i < (xs.filter (dueB now)).length → ws.cell? ⟨b, o + i, none⟩ = some (.int .i64 (mget (xs.filter (dueB now)) i).key)) → Saying w ws p S last now (xs.filter (dueB now)) (xs.filter (fun m => !dueB now m)) (some ⟨b, o, none⟩) c0 0 none 0 0 none 0 0 S) := fun a1 a2 a3 a4 a5 a6 => Saying.start hS a1 a2 a3 a4 a5 a6
  clear h hS hr htr
  generalize hds : xs.filter (dueB now) = ds at *
  generalize hun : xs.filter (fun m => !dueB now m) = und at *
  go_enter Try.func13, Try.ntmps13
  go_wp2_with fail
  refine Calls.mono HDU.out ?_
  rintro e w1 ⟨a, c, f, rfl, r1, r2, r3, r4, r5, r6⟩
  rw [hds] at r1 r3 ⊢
  rw [hun] at r4
  have HQ : Hid (xs.filter (dueB now) = ds ∧ xs.filter (fun m => !dueB now m) = und) := ⟨hds, hun⟩
  clear hds hun HDU
  by_cases hd0 : ds.length = 0
  · have hnil : ds = [] := List.length_eq_zero_iff.1 hd0
    have HSO : Aside _ := int_sort_none a c w1
    have HF : Aside (OutAt w1 p S last (agLeft now xs) ∧ (∀ k, S k → (S k ∨ w.heap.size ≤ k) ∧ k < w1.heap.size) ∧ Upd S w w1) := by
      refine ⟨HALL.out ?_, fun k hk => ⟨.inl hk, by have := HS.out k hk; have := r5.size; omega⟩, r5⟩
      have e1 : agNow now ds und ds.length = und := by rw [hnil]; rfl
      have e2 : agTms now ds und ds.length = und.map tmOf := by rw [hnil]; unfold agTms agSaid; simp
      have hpx : xs.Perm und := by
        have := List.filter_append_perm (dueB now) xs
        rw [HQ.out.1, HQ.out.2, hnil] at this
        exact this.symm
      rw [e1, e2]
      exact OutSt.perm r4 hpx (List.Perm.refl _)
    have HE : Hid (agSaid now ds = [] ∧ agOver ds = []) := by rw [hnil]; exact ⟨rfl, rfl⟩
    clear r1 r2 r3 r4 r5 r6 hnil HST HALL
    rw [hd0]
    go_wp2_with fail
    refine Calls.mono HSO.out ?_
    rintro e w2 ⟨rfl, rfl⟩
    go_wp2
    go_loopw [7, 8, 23] (fun s7 s8 i wr => s7 = .slice none 0 0 ∧ s8 = .slice none 0 0 ∧ i = .int .i64 0 ∧ wr = w2) (fun _ _ _ _ => 0)
    case atStart => exact ⟨rfl, rfl, rfl, rfl⟩
    case round =>
      obtain ⟨rfl, rfl, rfl, rfl⟩ := hrel
      go_wp2
      go_ret2
      unfold AgainOf
      rw [HQ.out.1, HE.out.1, HE.out.2]
      exact ⟨none, 0, none, 0, S, rfl, World.ownsRow_nil _ _ _ _, World.ownsRow_nil _ _ _ _, HF.out⟩
  · have hd1 : 0 < ds.length := Nat.pos_of_ne_zero hd0
    obtain ⟨b, o, rfl, hb, hc⟩ := r1 hd1
    obtain ⟨q1, q2⟩ := r2 b o rfl
    have HSO : Aside _ := int_sort (c := c) (ds.map (·.key)) (by omega) (by simp) hb hc (fun k _ => q2 (o + k)) HRS.out r3
    have HR4 : Aside (OutSt w1 p S last xs (und.map tmOf) ∧ Upd S w w1) := ⟨r4, r5⟩
    clear r1 r2 r3 r4 r5 hc q2 HRS
    go_wp2_with fail
    refine Calls.mono HSO.out ?_
    rintro e w2 ⟨rfl, s1, s2⟩
    have HSY : Aside (Saying w w2 p S last now ds und (some ⟨b, o, none⟩) c 0 none 0 0 none 0 0 S) := HST.out HR4.out.1 HR4.out.2 s2 q1 hb (fun i hi => by
      rw [s1 i hi, List.getD_eq_getElem?_getD, List.getElem?_map, List.getElem?_eq_getElem hi, mget_eq hi]
      rfl)
    clear s1 s2 HR4 HSO HST
    go_wp2
    go_loopw [7, 8, 23] (fun s7 s8 i wr => ∃ (j : Nat) (a1 : Option Addr) (n1 c1 : Nat) (a2 : Option Addr) (n2 c2 : Nat) (S' : Nat → Prop), j ≤ ds.length ∧ n1 ≤ j ∧ n2 ≤ j ∧ i = .int .i64 j ∧ s7 = .slice a1 n1 c1 ∧ s8 = .slice a2 n2 c2 ∧ Aside (Saying w wr p S last now ds und (some ⟨b, o, none⟩) c j a1 n1 c1 a2 n2 c2 S')) (fun _ _ i _ => ds.length - (intOf i).toNat)
    case atStart => exact ⟨0, none, 0, 0, none, 0, 0, S, Nat.zero_le _, Nat.le_refl _, Nat.le_refl _, rfl, rfl, rfl, HSY.out⟩
    case round =>
      clear HSY
      obtain ⟨j, a1, n1, c1, a2, n2, c2, S', hj, hn1, hn2, rfl, rfl, rfl, HR⟩ := hrel
      by_cases hlt : j < ds.length
      · have hjz : (j : Int) < (ds.length : Int) := by omega
        obtain ⟨t1, t2, t3, t4, t5, t6⟩ := HR.out.k0 b o rfl
        have x0 : wr.cell? ⟨b, o + j, none⟩ = some (.int .i64 (mget ds j).key) := t4 j hlt
        have hm : mget ds j ∈ agNow now ds und j := by
          unfold agNow
          rw [mdrop_at hlt]
          exact List.mem_append_right _ (List.mem_cons_self ..)
        obtain ⟨mb, k1, hmp, hv, -⟩ := out_there HR.out.out hm
        have hpr : p < wr.heap.size := HR.out.out.lt
        have BX : Below wr.heap.size wr (wr.alloc (.cells #[.int .i64 (mget ds j).key, .int .i64 (mget ds j).kind, .int .i64 (mget ds j).rma, .int .i64 (mget ds j).value, .int .i64 (mget ds j).tries, .int .i64 (mget ds j).due] 31)) := upd_box _
        have HOV : Aside _ := out_over (mget ds j) (wr.alloc (.cells #[.int .i64 (mget ds j).key, .int .i64 (mget ds j).kind, .int .i64 (mget ds j).rma, .int .i64 (mget ds j).value, .int .i64 (mget ds j).tries, .int .i64 (mget ds j).due] 31))
        have HBX : Aside (Below wr.heap.size wr (wr.alloc (.cells #[.int .i64 (mget ds j).key, .int .i64 (mget ds j).kind, .int .i64 (mget ds j).rma, .int .i64 (mget ds j).value, .int .i64 (mget ds j).tries, .int .i64 (mget ds j).due] 31))) := BX
        have MBX : MsgBox (wr.alloc (.cells #[.int .i64 (mget ds j).key, .int .i64 (mget ds j).kind, .int .i64 (mget ds j).rma, .int .i64 (mget ds j).value, .int .i64 (mget ds j).tries, .int .i64 (mget ds j).due] 31)) wr.heap.size (mget ds j) := MsgBox.made wr (mget ds j)
        have hwr : wr.heap.size < (wr.alloc (.cells #[.int .i64 (mget ds j).key, .int .i64 (mget ds j).kind, .int .i64 (mget ds j).rma, .int .i64 (mget ds j).value, .int .i64 (mget ds j).tries, .int .i64 (mget ds j).due] 31)).heap.size := by simp
        have HMM : Aside (mget ds j ∈ agNow now ds und j) := hm
        have HT : Aside ((0 ≤ (mget ds j).tries ∧ (mget ds j).tries < 1000000) ∧ 1 ≤ (mget ds j).key ∧ (mget ds j).key ≤ last) := HDS.out j hlt
        clear t1 t2 t3 t4 t5 t6 BX hm
        have HSO1 : Aside (overB (mget ds j) = true → ∀ {w1 w2 w4 : World} {a4 : Option Addr} {c4 : Nat}, Below wr.heap.size wr w1 → OutSt w2 p S' last (wo (agNow now ds und j) (mget ds j).key) (agTms now ds und j) → Upd S' w1 w2 → w4.ownsRow w.heap.size 31 6 (.slice a4 (n2 + 1) c4) (n2 + 1) (mcells (agOver (ds.take j) ++ [mget ds j])) → Upd (fun q => (Value.slice a2 n2 c2).ownBlock = some q) w2 w4 → (∀ q, (Value.slice a4 (n2 + 1) c4).ownBlock = some q → (Value.slice a2 n2 c2).ownBlock = some q ∨ w2.heap.size ≤ q) → Saying w w4 p S last now ds und (some ⟨b, o, none⟩) c (j + 1) a1 n1 c1 a4 (n2 + 1) c4 S') := fun ho => HR.out.over hlt ho
        have HSO2 : Aside (overB (mget ds j) = false → ∀ {w1 w2 w4 : World} {a4 : Option Addr} {c4 : Nat}, Below wr.heap.size wr w1 → Kept w1 p S' last (agNow now ds und j) (agTms now ds und j) (said (mget ds j) now) w2 → w4.ownsRow w.heap.size 31 6 (.slice a4 (n1 + 1) c4) (n1 + 1) (mcells (agSaid now (ds.take j) ++ [said (mget ds j) now])) → Upd (fun q => (Value.slice a1 n1 c1).ownBlock = some q) w2 w4 → (∀ q, (Value.slice a4 (n1 + 1) c4).ownBlock = some q → (Value.slice a1 n1 c1).ownBlock = some q ∨ w2.heap.size ≤ q) → Saying w w4 p S last now ds und (some ⟨b, o, none⟩) c (j + 1) a4 (n1 + 1) c4 a2 n2 c2 (More S' w1 w2)) := fun ho => HR.out.said hlt ho
        have hn1b : n1 < 10000 := by omega
        have hn2b : n2 < 10000 := by omega
        have HLN : Aside _ := HNL.out j hj
        clear HNL HDS HALL
        generalize mget ds j = m at *
        obtain ⟨ov, hov⟩ : ∃ ov, overB m = ov := ⟨_, rfl⟩
        rw [hov] at HOV HSO1 HSO2
        have HOVB : Hid (overB m = ov) := hov
        clear hov
        go_wp2_with fail
        refine Calls.mono HOV.out ?_
        rintro e w3 ⟨rfl, b3⟩
        have b13 : Below wr.heap.size wr w3 := HBX.out.trans (b3.mono (Nat.le_of_lt hwr))
        have M3 := MBX.upd (S := fun _ => False) (Upd.below b3) (fun x => x)
        have hO3 := HR.out.out.below b13
        have hpr3 : p < w3.heap.size := Nat.lt_of_lt_of_le hpr b13.size
        have HB3 : Aside (Below wr.heap.size wr w3) := b13
        have HI : Aside (∀ k, S' k → k < wr.heap.size) := fun k hk => (HR.out.inn k hk).2
        have hB0 : w.heap.size ≤ wr.heap.size := HR.out.up.size
        obtain ⟨m0, m1, m2, m3, m4, m5⟩ := M3.cells
        cases ov
        · have HSAY : Aside (Calls Try.prog 23 #[.pointer (some ⟨p, 0, none⟩), .agg #[.int .i64 m.key, .int .i64 m.kind, .int .i64 m.rma, .int .i64 m.value, .int .i64 m.tries, .int .i64 m.due], .int .i64 now] w3 fun e w' => e = .returned (.agg #[.int .i64 (said m now).key, .int .i64 (said m now).kind, .int .i64 (said m now).rma, .int .i64 (said m now).value, .int .i64 (said m now).tries, .int .i64 (said m now).due]) ∧ Kept w3 p S' last (agNow now ds und j) (agTms now ds und j) (said m now) w') := out_say hO3 m now HT.out.2 (by have := HLN.out.1; omega) (by have := HLN.out.2; omega) HT.out.1 hnow
          clear b3 b13 M3 hO3 MBX hv k1 x0 HOV HBX
          go_wp2_with fail
          refine Calls.mono HSAY.out ?_
          rintro e w5 ⟨rfl, hk⟩
          have HK : Aside (Kept w3 p S' last (agNow now ds und j) (agTms now ds und j) (said m now) w5) := hk
          have hr1 : w5.ownsRow w.heap.size 31 6 (.slice a1 n1 c1) n1 (mcells (agSaid now (ds.take j))) := ownsRow_upd (ownsRow_upd (S := fun _ => False) HR.out.r1 (Upd.below HB3.out) (fun _ _ x => x)) hk.2 (fun q hq => HR.out.o1 q hq)
          have HRW : Aside (w5.ownsRow w.heap.size 31 6 (.slice a1 n1 c1) n1 (mcells (agSaid now (ds.take j)))) := hr1
          have hbs : w.heap.size ≤ w5.heap.size := by have := HB3.out.size; have := hk.2.size; omega
          clear hk hr1 HSAY m0 m1 m2 m3 m4 m5
          generalize said m now = y at *
          go_wp2_with (at_builtin; refine wpList_append_msg rfl _ _ 36 31 rfl Try.underlying36 info_msgz w.heap.size n1 c1 a1 (agSaid now (ds.take j)) rfl HRW.out y rfl hn1b hbs (n1 + 1) rfl w.heap.size w5 (Below.refl _ _) (Nat.le_refl _) ?_; intro a4 c4 w7 g1 g2 g3 g4)
          have HN : Aside (Saying w w7 p S last now ds und (some ⟨b, o, none⟩) c (j + 1) a4 (n1 + 1) c4 a2 n2 c2 (More S' w3 w5)) := HSO2.out trivial HB3.out HK.out g1 g3 g4
          clear g1 g2 g3 g4
          go_wp2
          go_roundw
          case rel => exact ⟨j + 1, a4, n1 + 1, c4, a2, n2, c2, More S' w3 w5, by omega, by omega, by omega, by go_num, rfl, rfl, HN.out⟩
          case measure => simp [intOf]; omega
        · obtain ⟨mb2, k2, hmp2, -, w5, hdel, hO5, u5, u5b⟩ := out_there hO3 HMM.out
          have HO5 : Aside (OutSt w5 p S' last (wo (agNow now ds und j) m.key) (agTms now ds und j) ∧ Upd S' w3 w5) := ⟨hO5, u5⟩
          have M5 := M3.upd u5 (fun x => by have := HI.out _ x; omega)
          have hr2 : w5.ownsRow w.heap.size 31 6 (.slice a2 n2 c2) n2 (mcells (agOver (ds.take j))) := ownsRow_upd (ownsRow_upd (S := fun _ => False) HR.out.r2 (Upd.below HB3.out) (fun _ _ x => x)) u5 (fun q hq => HR.out.o2 q hq)
          have HRW : Aside (w5.ownsRow w.heap.size 31 6 (.slice a2 n2 c2) n2 (mcells (agOver (ds.take j)))) := hr2
          have hbs : w.heap.size ≤ w5.heap.size := by have := HB3.out.size; have := u5.size; omega
          obtain ⟨v0, v1, v2, v3, v4, v5⟩ := M5.cells
          clear b3 b13 M3 hO3 MBX hv k1 x0 HOV HBX hO5 u5 u5b hr2 M5 m1 m2 m3 m4 m5
          go_wp2_with (at_builtin; refine wpList_append_msg rfl _ _ 36 31 rfl Try.underlying36 info_msgz w.heap.size n2 c2 a2 (agOver (ds.take j)) rfl HRW.out m rfl hn2b hbs (n2 + 1) rfl w.heap.size w5 (Below.refl _ _) (Nat.le_refl _) ?_; intro a4 c4 w7 g1 g2 g3 g4)
          have HN : Aside (Saying w w7 p S last now ds und (some ⟨b, o, none⟩) c (j + 1) a1 n1 c1 a4 (n2 + 1) c4 S') := HSO1.out trivial HB3.out HO5.out.1 HO5.out.2 g1 g3 g4
          clear g1 g2 g3 g4
          go_wp2
          go_roundw
          case rel => exact ⟨j + 1, a1, n1, c1, a4, n2 + 1, c4, S', by omega, by omega, by omega, by go_num, rfl, rfl, HN.out⟩
          case measure => simp [intOf]; omega
      · obtain rfl : j = ds.length := by omega
        have HF : Aside (AgainOf w p S last now xs (.returned (.tuple #[.slice a1 n1 c1, .slice a2 n2 c2])) wr) := by
          have e1 : ds.take ds.length = ds := List.take_length
          have r1 := HR.out.r1
          have r2 := HR.out.r2
          rw [e1] at r1 r2
          have l1 : n1 = (agSaid now ds).length := by have := r1.1; rw [mcells_length] at this; omega
          have l2 : n2 = (agOver ds).length := by have := r2.1; rw [mcells_length] at this; omega
          unfold AgainOf
          rw [HQ.out.1]
          subst l1
          subst l2
          exact ⟨a1, c1, a2, c2, S', rfl, r1, r2, HALL.out HR.out.out, HR.out.inn, HR.out.up⟩
        clear HR HALL HNL HDS
        go_wp2
        go_ret2
        exact HF.out
end Go.Proofs.Ytcnheikckfhniaa
