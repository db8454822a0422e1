/-
  Package outbox: Waits, Drop: loops over the map. Conditions: those of each theorem.
-/
import Derived.Test.YtcnheikckfhniaaOutHeard
namespace Go.Proofs.Ytcnheikckfhniaa
open Go.RowKit Go.Maps
set_option maxRecDepth 100000

/-- The loop's step over the messages' map. -/
theorem wpList_next_msgs {P : Program} (w : World) {ops : Array Oper} {rest : List Oper} {o : Oper} {a : Act} {Q : Exit → Act → World → Prop} (hg : o.guard = none) (it : Operand) (hop : o.op = Op.next it false) (k : TypeId) (K : Keyed P k) (hk : P.underlying k = some (.int .i64))
    (b r n : Nat) (D : DataW Msg) (left : Lit → Bool) (cnt : Nat) (hit : a.eval it = .pointer (some ⟨r, 0, none⟩)) (h : w.ranges P k rMsg b r n D left cnt)
    (hDone : (∀ kl, left kl = false) → wpList P ops Q rest (a.put o.dst (.tuple #[.bool false])) w)
    (hMore : ∀ (x : Int) (m : Msg) (w' : World) (cnt' : Nat), W64 x → left (ik x) = true → (∀ zd, D.atKey (ik x) zd = .held m) → w'.ranges P k rMsg b r n D (fun z => left z && !z.sameKey (ik x)) cnt' → cnt' < cnt →
      w.grownBy w' (some r) → w'.heap.size = w.heap.size → (Instr.entry (.pointer (some ⟨r, 0, none⟩))).run P w' = .ok (.tuple #[.int .i64 x, .agg #[.int .i64 m.key, .int .i64 m.kind, .int .i64 m.rma, .int .i64 m.value, .int .i64 m.tries, .int .i64 m.due]]) w' → wpList P ops Q rest (a.put o.dst (.tuple #[.bool true, .int .i64 x, .agg #[.int .i64 m.key, .int .i64 m.kind, .int .i64 m.rma, .int .i64 m.value, .int .i64 m.tries, .int .i64 m.due]])) w') :
    wpList P ops Q (o :: rest) a w :=
  wpList_next_ranges w hg it hop k K rMsg (Value.int .i64) (fun m : Msg => .agg #[.int .i64 m.key, .int .i64 m.kind, .int .i64 m.rma, .int .i64 m.value, .int .i64 m.tries, .int .i64 m.due]) (fun key kl hkey => by obtain ⟨x, rfl, _⟩ := Maps.keyOf_int_inv hk hkey; exact ⟨x, rfl⟩) (fun v y hv => by obtain ⟨m, rfl, _⟩ := rMsg_inv hv; exact ⟨m, rfl⟩)
    b r n D left cnt hit h (fun _ hl => hDone hl) (fun x m kl y w' cnt' hkey hlk hv hat hrg hlt hgr hsz hen => by
      obtain ⟨x', ex, rfl, hwx⟩ := Maps.keyOf_int_inv hk hkey
      cases ex
      obtain ⟨m', em, rfl⟩ := rMsg_inv hv
      obtain ⟨a1, a2, a3, a4, a5, a6⟩ := m
      obtain ⟨b1, b2, b3, b4, b5, b6⟩ := m'
      simp only [Value.agg.injEq, Array.mk.injEq, List.cons.injEq, Value.int.injEq, true_and, and_true] at em
      obtain ⟨rfl, rfl, rfl, rfl, rfl, rfl⟩ := em
      exact hMore x _ w' cnt' hwx hlk hat hrg hlt hgr hsz hen)

theorem own_one {w : World} {b n n' : Nat} {D D' : DataW Msg} (h : w.ownsMap Try.prog 3 rMsg b n D) (h' : w.ownsMap Try.prog 3 rMsg b n' D') : D = D' := by
  obtain ⟨es, c, h1, _, _, h2⟩ := h
  obtain ⟨es', c', h1', _, _, h2'⟩ := h'
  rw [h1] at h1'
  injection h1' with e
  injection e with e1 e2
  rw [h2, h2', e1]
/-- The entry that comes is a message's. -/
theorem entry_is {w : World} {b n : Nat} {D : DataW Msg} {xs : List Msg} {x : Int} {m : Msg} (hM : MsgMap w b xs) (hn : NDK xs) (h : w.ownsMap Try.prog 3 rMsg b n D) (hx : W64 x) (hl : Maps.has D (ik x) = true) (hat : ∀ zd, D.atKey (ik x) zd = .held m) : m ∈ xs ∧ m.key = x := by
  obtain ⟨D', h1, h2, h3⟩ := hM
  obtain rfl := own_one h h1
  obtain ⟨h4, h5⟩ := h3 x hx
  rw [hl] at h4
  cases e : look xs x with
  | none => rw [e] at h4; cases h4
  | some m' =>
    have := h5 m' e
    rw [hat] at this
    injection this with this
    subst this
    exact (look_some hn).1 e
theorem sameKey_ik (a x : Int) : (ik a).sameKey (ik x) = decide (a = x) := by
  unfold ik
  by_cases h : a = x
  · subst h
    rw [decide_eq_true rfl]
    exact WideAt.sameKey_self trivial
  · rw [decide_eq_false h]
    cases e : (Lit.int IntKind.i64 a).sameKey (Lit.int IntKind.i64 x) with
    | false => rfl
    | true =>
      have := WideAt.sameKey_eq e
      injection this with _ e
      exact absurd e h

/-- How many of those that have come are wanted. -/
def come (q : Msg → Bool) (left : Lit → Bool) (xs : List Msg) : Nat := (xs.filter (fun m => !left (ik m.key) && q m)).length
theorem come_start {q : Msg → Bool} {left : Lit → Bool} {xs : List Msg} (h : ∀ m ∈ xs, left (ik m.key) = true) : come q left xs = 0 := by
  unfold come
  rw [List.length_eq_zero_iff, List.filter_eq_nil_iff]
  intro m hm
  rw [h m hm]
  simp
theorem come_end {q : Msg → Bool} {left : Lit → Bool} {xs : List Msg} (h : ∀ k, left k = false) : come q left xs = (xs.filter q).length := by
  unfold come
  congr 2
  funext m
  rw [h]
  rfl
theorem come_step {q : Msg → Bool} {left : Lit → Bool} {xs : List Msg} (hn : NDK xs) {m : Msg} (hm : m ∈ xs) (hl : left (ik m.key) = true) : come q (fun z => left z && !z.sameKey (ik m.key)) xs = come q left xs + (if q m then 1 else 0) := by
  have hp := wo_split hn (look_mem hn hm)
  unfold come
  rw [(hp.filter _).length_eq, (hp.filter (fun m => !left (ik m.key) && q m)).length_eq, List.filter_cons, List.filter_cons]
  have e1 : (wo xs m.key).filter (fun x => !(left (ik x.key) && !(ik x.key).sameKey (ik m.key)) && q x) = (wo xs m.key).filter (fun x => !left (ik x.key) && q x) := by
    apply List.filter_congr
    intro x hx
    have := (wo_mem.1 hx).2
    rw [sameKey_ik, decide_eq_false this]
    simp
  rw [e1]
  simp only [sameKey_ik, decide_true, hl]
  cases q m <;> simp
/-- What is there while the loop is under way: those that are still to come, or aren't struck. -/
def rest (q : Msg → Bool) (left : Lit → Bool) (xs : List Msg) : List Msg := xs.filter (fun m => left (ik m.key) || !q m)
theorem rest_start {q : Msg → Bool} {left : Lit → Bool} {xs : List Msg} (h : ∀ m ∈ xs, left (ik m.key) = true) : rest q left xs = xs := by
  unfold rest
  rw [List.filter_eq_self]
  intro m hm
  rw [h m hm]
  rfl
theorem rest_end {q : Msg → Bool} {left : Lit → Bool} {xs : List Msg} (h : ∀ k, left k = false) : rest q left xs = xs.filter (fun m => !q m) := by
  unfold rest
  congr 1
  funext m
  rw [h]
  rfl
theorem rest_step {q : Msg → Bool} {left : Lit → Bool} {xs : List Msg} {m : Msg} (hn : NDK xs) (hm : m ∈ xs) : rest q (fun z => left z && !z.sameKey (ik m.key)) xs = if q m then wo (rest q left xs) m.key else rest q left xs := by
  by_cases hq : q m = true
  · rw [if_pos hq]
    unfold rest wo
    rw [List.filter_filter]
    apply List.filter_congr
    intro x hx
    simp only [sameKey_ik]
    by_cases e : x.key = m.key
    · have : x = m := by
        have a1 := look_mem hn hx
        have a2 := look_mem hn hm
        rw [e, a2] at a1
        injection a1 with a1
        exact a1.symm
      subst this
      simp [hq]
    · simp [e]
  · have hq : q m = false := by simpa using hq
    rw [hq]
    unfold rest
    apply List.filter_congr
    intro x hx
    simp only [sameKey_ik]
    by_cases e : x.key = m.key
    · have : x = m := by
        have a1 := look_mem hn hx
        have a2 := look_mem hn hm
        rw [e, a2] at a1
        injection a1 with a1
        exact a1.symm
      subst this
      simp [hq]
    · simp [e]

theorem out_waits_nil (q : Int) (w : World) : Calls Try.prog 18 #[.pointer none, .int .i64 q] w fun e w' => e = .returned (.int .i64 0) ∧ w = w' := by
  go_enter Try.func18, Try.ntmps18
  go_wp2
  go_ret
  exact ⟨rfl, rfl⟩
theorem waits_bare {w : World} {p : Nat} (h1 : w.cell? ⟨p, 1, none⟩ = some (.map none)) (q : Int) : Calls Try.prog 18 #[.pointer (some ⟨p, 0, none⟩), .int .i64 q] w fun e w' => e = .returned (.int .i64 0) ∧ Below w.heap.size w w' := by
  have hrg := run_range_nilMap (P := Try.prog) w 53 3 31 Try.underlying53
  have hnx : ∀ ty, (Instr.next (.pointer (some ⟨w.heap.size, 0, none⟩)) false ty).run Try.prog (w.alloc (.mapIter none 0 #[] 0)) = _ := fun ty => run_next_nilMap w ty 0 0 #[]
  go_enter Try.func18, Try.ntmps18
  go_wp2
  refine wp_loop_rounds 1 ?_
  rw [rounds_succ]
  go_wp2
  go_ret
  exact ⟨rfl, upd_box _⟩
/-- One that waits, and is no label. -/
def waitB (R : Int) (m : Msg) : Bool := decide (m.rma = R) && decide (m.kind ≠ 1)
set_option maxHeartbeats 2000000 in
theorem waits_made {w : World} {p b : Nat} {xs : List Msg} (h1 : w.cell? ⟨p, 1, none⟩ = some (.map (some b))) (hM : MsgMap w b xs) (hn : NDK xs) (hx : ∀ m ∈ xs, W64 m.key) (hfew : xs.length ≤ 900) (R : Int) :
    Calls Try.prog 18 #[.pointer (some ⟨p, 0, none⟩), .int .i64 R] w fun e w' => e = .returned (.int .i64 ((xs.filter (waitB R)).length : Nat)) ∧ Below w.heap.size w w' := by
  have HM : Aside (MsgMap w b xs) := hM
  obtain ⟨D, d1, d2, d3⟩ := hM
  have hbl := d1.lt
  have HD : Aside (∀ m ∈ xs, Maps.has D (ik m.key) = true) := fun m hm => by rw [(d3 _ (hx m hm)).1, look_mem hn hm]; rfl
  have HN : Aside _ := hn
  clear d2 d3 hn hx
  go_enter Try.func18, Try.ntmps18
  go_wp2_with (first
    | (at_range; refine wpList_range_own _ rfl _ 53 rfl 3 31 mkeyed Try.underlying53 _ b xs.length _ rfl d1 ?_; intro w0 hrg0 hg0 hs0)
    | go_in)
  go_frame
  go_loopw [5] (fun s wr => ∃ (left : Lit → Bool) (cnt : Nat), s = .int .i64 (come (waitB R) left xs : Nat) ∧ Aside (wr.ranges Try.prog 3 rMsg b w.heap.size xs.length D left cnt ∧ Below w.heap.size w wr ∧ ∀ kl, left kl = true → Maps.has D kl = true)) (fun _ wr => wr.rangeLeft b w.heap.size)
  case atStart =>
    refine ⟨_, _, ?_, hrg0, ?_, fun _ h => h⟩
    · rw [come_start (fun m hm => HD.out m hm)]; rfl
    · exact (Below.refl _ _).grown hg0 (Nat.le_refl _) (fun k hk => by cases hk)
  case round =>
    obtain ⟨left, cnt, rfl, HR⟩ := hrel
    have hrg := HR.out.1
    have hcl : come (waitB R) left xs ≤ xs.length := List.length_filter_le _ _
    go_wp2_with (first
      | (at_next; refine wpList_next_msgs _ rfl _ rfl 3 mkeyed Try.underlying3 b w.heap.size xs.length D left cnt rfl hrg ?_ ?_)
      | go_in)
    · intro hl0
      have hE : Hid (come (waitB R) left xs = (xs.filter (waitB R)).length) := come_end hl0
      have HB : Aside _ := HR.out.2.1
      clear hrg HR
      go_wp2
      go_ret
      exact ⟨by rw [← hE.out]; rfl, HB.out⟩
    · intro x m w1 cnt1 hwx hlx hat hrg1 hlt hg1 hs1 hen
      have hmm := entry_is (HM.out.below HR.out.2.1) HN.out hrg.owns hwx (HR.out.2.2 _ hlx) hat
      obtain ⟨hm, rfl⟩ := hmm
      have hst := come_step (q := waitB R) HN.out hm hlx
      have HB1 : Aside (Below w.heap.size w w1) := HR.out.2.1.grown hg1 HR.out.2.1.size (fun k hk => by cases hk; exact Nat.le_refl _)
      have HRG : Aside (w1.ranges Try.prog 3 rMsg b w.heap.size xs.length D (fun z => left z && !z.sameKey (ik m.key)) cnt1) := hrg1
      have HLF : Aside (∀ kl, (left kl && !kl.sameKey (ik m.key)) = true → Maps.has D kl = true) := fun kl hk => HR.out.2.2 kl (by simp at hk; exact hk.1)
      have HLT : Hid (cnt1 < cnt) := hlt
      have HO : Hid (wr.rangeLeft b w.heap.size = cnt) := hrg.left_eq
      have hms : w.heap.size ≤ w1.heap.size := HB1.out.size
      have HAL : Aside (∀ o, (w1.alloc o).ranges Try.prog 3 rMsg b w.heap.size xs.length D (fun z => left z && !z.sameKey (ik m.key)) cnt1 ∧ Below w.heap.size w (w1.alloc o)) := fun o => ⟨HRG.out.alloc o, HB1.out.alloc hms o⟩
      have hq : waitB R m = (decide (m.rma = R) && decide (m.kind ≠ 1)) := rfl
      rw [hq] at hst
      clear hq hat hrg1 hlt hg1 HR hrg hlx
      generalize come (waitB R) left xs = C at *
      obtain ⟨left', hleft⟩ : ∃ l : Lit → Bool, l = (fun z => left z && !z.sameKey (ik m.key)) := ⟨_, rfl⟩
      have hkey : Hid (∀ kl, left' kl = true → Maps.has D kl = true) := by rw [hleft]; exact HLF.out
      rw [← hleft] at hst
      have HAL' : Aside (∀ o, (w1.alloc o).ranges Try.prog 3 rMsg b w.heap.size xs.length D left' cnt1 ∧ Below w.heap.size w (w1.alloc o)) := by rw [hleft]; exact HAL.out
      clear HAL HLF HRG hleft
      obtain ⟨mk, mi, mr, mv, mt, mu⟩ := m
      dsimp only at *
      by_cases e1 : mr = R
      · subst e1
        by_cases e2 : mi = 1
        · subst e2
          have hst' : Hid (come (waitB mr) left' xs = C) := by show _ = _; rw [hst]; simp
          clear hst
          go_wp2
          go_roundw
          case rel => exact ⟨left', cnt1, by rw [hst'.out], (HAL'.out _).1, (HAL'.out _).2, hkey.out⟩
          case measure => rw [(HAL'.out _).1.left_eq, HO.out]; exact HLT.out
        · have hne : (mi == 1) = false := by simpa using e2
          have hst' : Hid (come (waitB mr) left' xs = C + 1) := by show _ = _; rw [hst]; simp [e2]
          clear hst
          go_wp2
          go_roundw
          case rel => exact ⟨left', cnt1, by rw [hst'.out]; go_num, (HAL'.out _).1, (HAL'.out _).2, hkey.out⟩
          case measure => rw [(HAL'.out _).1.left_eq, HO.out]; exact HLT.out
      · have hne : (mr == R) = false := by simpa using e1
        have hst' : Hid (come (waitB R) left' xs = C) := by show _ = _; rw [hst]; simp [e1]
        clear hst
        go_wp2
        go_roundw
        case rel => exact ⟨left', cnt1, by rw [hst'.out], (HAL'.out _).1, (HAL'.out _).2, hkey.out⟩
        case measure => rw [(HAL'.out _).1.left_eq, HO.out]; exact HLT.out
theorem out_waits {w : World} {p : Nat} {S : Nat → Prop} {last : Int} {xs : List Msg} {ts : List Tm} (h : OutSt w p S last xs ts) (R : Int) :
    Calls Try.prog 18 #[.pointer (some ⟨p, 0, none⟩), .int .i64 R] w fun e w' => e = .returned (.int .i64 ((xs.filter (waitB R)).length : Nat)) ∧ Below w.heap.size w w' := by
  obtain ⟨T, ys, hTS, hT, hyp, h4⟩ := h.st
  rcases h4 with ⟨e, q⟩ | ⟨b, q1, q2, q3, q4⟩
  · subst e
    exact waits_bare q R
  · exact waits_made q3 q4 h.nd (fun m hm => key_w64 (h.keys m hm) h.lst) h.few R

theorem out_drop_nil (q k : Int) (w : World) : Calls Try.prog 11 #[.pointer none, .int .i64 q, .int .i64 k] w fun e w' => e = .returned (.int .i64 0) ∧ w = w' := by
  go_enter Try.func11, Try.ntmps11
  go_wp2
  go_ret
  exact ⟨rfl, rfl⟩
theorem drop_bare {w : World} {p : Nat} (h1 : w.cell? ⟨p, 1, none⟩ = some (.map none)) (q k : Int) : Calls Try.prog 11 #[.pointer (some ⟨p, 0, none⟩), .int .i64 q, .int .i64 k] w fun e w' => e = .returned (.int .i64 0) ∧ Below w.heap.size w w' := by
  have hrg := run_range_nilMap (P := Try.prog) w 53 3 31 Try.underlying53
  have hnx : ∀ ty, (Instr.next (.pointer (some ⟨w.heap.size, 0, none⟩)) false ty).run Try.prog (w.alloc (.mapIter none 0 #[] 0)) = _ := fun ty => run_next_nilMap w ty 0 0 #[]
  go_enter Try.func11, Try.ntmps11
  go_wp2
  refine wp_loop_rounds 1 ?_
  rw [rounds_succ]
  go_wp2
  go_ret
  exact ⟨rfl, upd_box _⟩
/-- One of a return and a kind. -/
def dropB (R K : Int) (m : Msg) : Bool := decide (m.rma = R) && decide (m.kind = K)
/-- The loop of Drop under way: r, the loop's own block, isn't the outbox's. -/
structure Dropping (w w' : World) (p b : Nat) (S : Nat → Prop) (last : Int) (xs : List Msg) (q : Msg → Bool) (left : Lit → Bool) (cnt : Nat) : Prop where
  out : OutAt w' p S last (rest q left xs)
  upd : Upd S w w'
  c1 : w'.cell? ⟨p, 1, none⟩ = some (.map (some b))
  rg : ∃ D, w'.ranges Try.prog 3 rMsg b w.heap.size xs.length D left cnt ∧ ∀ kl, left kl = true → Maps.has D kl = true
theorem OutSt.map {w : World} {p b : Nat} {S : Nat → Prop} {last : Int} {xs : List Msg} {ts : List Tm} (h : OutSt w p S last xs ts) (h1 : w.cell? ⟨p, 1, none⟩ = some (.map (some b))) : MsgMap w b xs := by
  obtain ⟨T, ys, hTS, hT, hyp, h4⟩ := h.st
  rcases h4 with ⟨e, q⟩ | ⟨b', q1, q2, q3, q4⟩
  · rw [h1] at q; cases q
  · rw [h1] at q3
    injection q3 with q3
    injection q3 with q3
    injection q3 with q3
    exact q3 ▸ q4
section
variable {w w' w2 : World} {p b : Nat} {S : Nat → Prop} {last : Int} {xs : List Msg} {q : Msg → Bool} {left : Lit → Bool} {cnt cnt1 : Nat}
theorem rest_mem {m : Msg} (h : m ∈ rest q left xs) : m ∈ xs := (List.mem_filter.1 h).1
/-- An entry has come, and lies in a box. -/
theorem Dropping.come (h : Dropping w w' p b S last xs q left cnt) (hn : NDK xs) (hS : ∀ k, S k → k < w.heap.size) {D : DataW Msg} {x : Int} {m : Msg} {w1 : World} (hD : w'.ranges Try.prog 3 rMsg b w.heap.size xs.length D left cnt) (hlk : ∀ kl, left kl = true → Maps.has D kl = true) (hwx : W64 x) (hlx : left (ik x) = true) (hat : ∀ zd, D.atKey (ik x) zd = .held m)
    (hrg1 : w1.ranges Try.prog 3 rMsg b w.heap.size xs.length D (fun z => left z && !z.sameKey (ik x)) cnt1) (hg1 : w'.grownBy w1 (some w.heap.size)) (o : Obj) :
    m ∈ xs ∧ m.key = x ∧ OutAt (w1.alloc o) p S last (rest q left xs) ∧ Upd S w (w1.alloc o) ∧ (w1.alloc o).cell? ⟨p, 1, none⟩ = some (.map (some b)) ∧ (w1.alloc o).ranges Try.prog 3 rMsg b w.heap.size xs.length D (fun z => left z && !z.sameKey (ik x)) cnt1 := by
  have hM := OutSt.map h.out h.c1
  obtain ⟨h1, h2⟩ := entry_is hM (hn.filter _) hD.owns hwx (hlk _ hlx) hat
  have hu : Upd (fun k => k = w.heap.size) w' (w1.alloc o) := ((Upd.refl _ w').grown hg1 (fun k hk => .inl (by cases hk; rfl))).alloc o
  have hp := h.out.own
  refine ⟨rest_mem h1, h2, OutSt.upd h.out hu (fun k hk e => by have := hS k hk; omega), h.upd.trans hu (fun k hk e => by omega), (hu.cell (p := ⟨p, 1, none⟩) h.out.lt (fun e => by have := hS p hp; have e' : p = w.heap.size := e; omega)).trans h.c1, hrg1.alloc o⟩
end
set_option maxHeartbeats 4000000 in
theorem drop_made {w : World} {p b : Nat} {S : Nat → Prop} {last : Int} {xs : List Msg} (h : OutAt w p S last xs) (hS : ∀ k, S k → k < w.heap.size) (h1 : w.cell? ⟨p, 1, none⟩ = some (.map (some b))) (R K : Int) :
    Calls Try.prog 11 #[.pointer (some ⟨p, 0, none⟩), .int .i64 R, .int .i64 K] w fun e w' => e = .returned (.int .i64 ((xs.filter (dropB R K)).length : Nat)) ∧ OutAt w' p S last (xs.filter (fun m => !dropB R K m)) ∧ Upd S w w' := by
  have H : Aside (OutAt w p S last xs) := h
  have HS : Aside (∀ k, S k → k < w.heap.size) := hS
  have HN : Aside (NDK xs) := h.nd
  have hM := OutSt.map h h1
  have HM : Aside (MsgMap w b xs) := hM
  have hfew := h.few
  have hlst := h.lst
  have HKY : Aside (∀ m ∈ xs, W64 m.key) := fun m hm => key_w64 (h.keys m hm) h.lst
  obtain ⟨D, d1, d2, d3⟩ := hM
  have HD : Aside (∀ m ∈ xs, Maps.has D (ik m.key) = true) := fun m hm => by rw [(d3 _ (HKY.out m hm)).1, look_mem h.nd hm]; rfl
  clear d2 d3 h hS
  go_enter Try.func11, Try.ntmps11
  go_wp2_with (first
    | (at_range; refine wpList_range_own _ rfl _ 53 rfl 3 31 mkeyed Try.underlying53 _ b xs.length _ rfl d1 ?_; intro w0 hrg0 hg0 hs0)
    | go_in)
  go_frame
  go_loopw [7] (fun s wr => ∃ (left : Lit → Bool) (cnt n : Nat), s = .int .i64 (n : Nat) ∧ Hid (n + (rest (dropB R K) left xs).length = xs.length) ∧ Aside (Dropping w wr p b S last xs (dropB R K) left cnt)) (fun _ wr => wr.rangeLeft b w.heap.size)
  case atStart =>
    have hr0 : rest (dropB R K) (Maps.has D) xs = xs := rest_start (fun m hm => HD.out m hm)
    have hu0 : Upd (fun k => k = w.heap.size) w w0 := (Upd.refl _ w).grown hg0 (fun k hk => by cases hk)
    have hp := H.out.own
    refine ⟨Maps.has D, Maps.size D, 0, rfl, by show _ = _; rw [hr0]; omega, ?_, ?_, ?_, D, hrg0, fun _ h => h⟩
    · rw [hr0]
      exact OutSt.upd H.out hu0 (fun k hk e => by have := HS.out k hk; omega)
    · exact (Upd.refl _ w).grown hg0 (fun k hk => by cases hk)
    · exact (hu0.cell (p := ⟨p, 1, none⟩) H.out.lt (fun e => by have := H.out.lt; have e' : p = w.heap.size := e; omega)).trans h1
  case round =>
    clear H HD HM d1
    obtain ⟨left, cnt, n, rfl, HL, HR⟩ := hrel
    obtain ⟨D1, hrg, hlk⟩ := HR.out.rg
    have k1 := HR.out.c1
    have hnn : n ≤ 900 := by have := HL.out; omega
    have HRG : Aside (wr.ranges Try.prog 3 rMsg b w.heap.size xs.length D1 left cnt) := hrg
    go_wp2_with (first
      | (at_next; refine wpList_next_msgs _ rfl _ rfl 3 mkeyed Try.underlying3 b w.heap.size xs.length D1 left cnt rfl hrg ?_ ?_)
      | go_in)
    · intro hl0
      have hE : rest (dropB R K) left xs = xs.filter (fun m => !dropB R K m) := rest_end hl0
      have hln : n = (xs.filter (dropB R K)).length := by
        have a1 := HL.out
        have a2 := (List.filter_append_perm (dropB R K) xs).length_eq
        rw [List.length_append] at a2
        rw [hE] at a1
        omega
      have HO := HR.out.out
      rw [hE] at HO
      have HF : Aside (OutAt wr p S last (xs.filter (fun m => !dropB R K m)) ∧ Upd S w wr) := ⟨HO, HR.out.upd⟩
      have HLN : Hid (n = (xs.filter (dropB R K)).length) := hln
      clear hrg HR HRG hE hln HO HL
      go_wp2
      go_ret
      exact ⟨by rw [← HLN.out]; rfl, HF.out⟩
    · intro x m w1 cnt1 hwx hlx hat hrg1 hlt hg1 hs1 hen
      have HC : Aside (∀ o, _) := fun o => HR.out.come HN.out HS.out hrg hlk hwx hlx hat hrg1 hg1 o
      obtain ⟨hm, rfl, -⟩ := HC.out (.map #[] 0)
      have hst := rest_step (q := dropB R K) (left := left) HN.out hm
      have hlm : look (rest (dropB R K) left xs) m.key = some m := look_mem (HN.out.filter _) (by rw [List.mem_filter]; exact ⟨hm, by rw [hlx]; rfl⟩)
      have HLT : Hid (cnt1 < cnt) := hlt
      have HO : Hid (wr.rangeLeft b w.heap.size = cnt) := hrg.left_eq
      obtain ⟨left', hleft⟩ : ∃ l : Lit → Bool, l = (fun z => left z && !z.sameKey (ik m.key)) := ⟨_, rfl⟩
      have hq : dropB R K m = (decide (m.rma = R) && decide (m.kind = K)) := rfl
      rw [hq, ← hleft] at hst
      have HCL : Aside (∀ o, OutAt (w1.alloc o) p S last (rest (dropB R K) left xs) ∧ Upd S w (w1.alloc o) ∧ (w1.alloc o).cell? ⟨p, 1, none⟩ = some (.map (some b)) ∧ (w1.alloc o).ranges Try.prog 3 rMsg b w.heap.size xs.length D1 left' cnt1) := fun o => by rw [hleft]; exact (HC.out o).2.2
      have HLK : Aside (∀ kl, left' kl = true → Maps.has D1 kl = true) := fun kl hk => hlk kl (by rw [hleft] at hk; simp at hk; exact hk.1)
      have HTW : Aside ((fun z : Lit => left' z && !z.sameKey (ik m.key)) = left') := by
        show _ = _
        rw [hleft]
        exact Maps.strike_twice left (ik m.key)
      have HDK : Aside (∀ kl, left' kl = true → Maps.has (D1.del (ik m.key)) kl = true) := fun kl hk => by
        have hne : kl ≠ ik m.key := fun e => by
          subst e
          rw [hleft] at hk
          simp [sameKey_ik] at hk
        rw [has_del_other hne]
        exact HLK.out kl hk
      have HSR : Hid (¬ S w.heap.size) := fun x => by have := HS.out _ x; omega
      have hwl := wo_length (HN.out.filter (fun m => left (ik m.key) || !dropB R K m)) m.key
      have hwl2 : (wo (rest (dropB R K) left xs) m.key).length + 1 = (rest (dropB R K) left xs).length := by
        have : (look (rest (dropB R K) left xs) m.key).isSome = true := by rw [hlm]; rfl
        have h9 : (wo (rest (dropB R K) left xs) m.key).length + (if (look (rest (dropB R K) left xs) m.key).isSome = true then 1 else 0) = (rest (dropB R K) left xs).length := hwl
        rw [if_pos this] at h9
        exact h9
      have HWL : Hid ((wo (rest (dropB R K) left xs) m.key).length + 1 = (rest (dropB R K) left xs).length) := hwl2
      have HXW : Aside (W64 m.key) := hwx
      clear hwl hwl2 hlm hq hat hrg1 hlt hg1 HR hrg hlx hlk HC hleft HRG k1
      generalize hrs : rest (dropB R K) left xs = zs at *
      clear hrs
      have HST : Hid (rest (dropB R K) left' xs = if (decide (m.rma = R) && decide (m.kind = K)) = true then wo zs m.key else zs) := hst
      clear hst
      have hms : m = ⟨m.key, m.kind, m.rma, m.value, m.tries, m.due⟩ := rfl
      generalize hmk : m.key = mk at *
      generalize hmi : m.kind = mi at *
      generalize hmr : m.rma = mr at *
      generalize m.value = mv at *
      generalize m.tries = mt at *
      generalize m.due = mu at *
      clear hms hmk hmi hmr
      by_cases e1 : mr = R
      · subst e1
        by_cases e2 : mi = K
        · subst e2
          have hst' : Hid (rest (dropB mr mi) left' xs = wo zs mk) := by show _ = _; rw [HST.out]; simp
          obtain ⟨h9, u9, c9, r9⟩ := HCL.out (.cells #[.int .i64 mk, .int .i64 mi, .int .i64 mr, .int .i64 mv, .int .i64 mt, .int .i64 mu] 31)
          have HH : Aside (Calls Try.prog 12 _ _ _) := out_heard h9 mk HXW.out
          have HU9 : Aside _ := u9
          have HC9 : Aside (World.cell? _ _ = _) := c9
          have HR9 : Aside (World.ranges _ _ _ _ _ _ _ _ _ _) := r9
          clear h9 u9 c9 r9 HST HCL
          go_wp2_with fail
          refine Calls.mono HH.out ?_
          rintro e w3 ⟨rfl, q1, q2, q3, q4⟩
          obtain ⟨cnt3, g1, g2⟩ := q3 b HC9.out w.heap.size xs.length D1 left' cnt1 HSR.out HR9.out
          have HN9 : Aside (Dropping w w3 p b S last xs (dropB mr mi) left' cnt3 ∧ w3.rangeLeft b w.heap.size = cnt3) := by
            rw [HTW.out] at g1
            refine ⟨⟨by rw [hst'.out]; exact q1, HU9.out.trans q2 (fun _ _ x => x), q4.trans HC9.out, _, g1, HDK.out⟩, g1.left_eq⟩
          have HG2 : Hid (cnt3 ≤ cnt1) := g2
          clear q1 q2 q3 q4 g1 g2 HH
          go_wp2
          go_roundw
          case rel => exact ⟨left', cnt3, n + 1, by go_num, by show _ = _; have a1 := HWL.out; have a2 := HL.out; rw [hst'.out]; omega, HN9.out.1⟩
          case measure => rw [HN9.out.2, HO.out]; exact Nat.lt_of_le_of_lt HG2.out HLT.out
        · have hne : (mi == K) = false := by simpa using e2
          have hst' : Hid (rest (dropB mr K) left' xs = zs) := by show _ = _; rw [HST.out]; simp [e2]
          go_wp2
          go_roundw
          case rel =>
            refine ⟨left', cnt1, n, rfl, by show _ = _; rw [hst'.out]; exact HL.out, ⟨by rw [hst'.out]; exact (HCL.out _).1, (HCL.out _).2.1, (HCL.out _).2.2.1, D1, (HCL.out _).2.2.2, HLK.out⟩⟩
          case measure => rw [(HCL.out _).2.2.2.left_eq, HO.out]; exact HLT.out
      · have hne : (mr == R) = false := by simpa using e1
        have hst' : Hid (rest (dropB R K) left' xs = zs) := by show _ = _; rw [HST.out]; simp [e1]
        go_wp2
        go_roundw
        case rel =>
          refine ⟨left', cnt1, n, rfl, by show _ = _; rw [hst'.out]; exact HL.out, ⟨by rw [hst'.out]; exact (HCL.out _).1, (HCL.out _).2.1, (HCL.out _).2.2.1, D1, (HCL.out _).2.2.2, HLK.out⟩⟩
        case measure => rw [(HCL.out _).2.2.2.left_eq, HO.out]; exact HLT.out
theorem out_drop {w : World} {p : Nat} {S : Nat → Prop} {last : Int} {xs : List Msg} (h : OutAt w p S last xs) (R K : Int) :
    Calls Try.prog 11 #[.pointer (some ⟨p, 0, none⟩), .int .i64 R, .int .i64 K] w fun e w' => e = .returned (.int .i64 ((xs.filter (dropB R K)).length : Nat)) ∧ OutAt w' p S last (xs.filter (fun m => !dropB R K m)) ∧ Upd S w w' := by
  obtain ⟨T, ys, hTS, hT, hyp, h4⟩ := h.st
  rcases h4 with ⟨e, q⟩ | ⟨b, q1, q2, q3, q4⟩
  · subst e
    exact (drop_bare q R K).mono fun e w' x => ⟨x.1, OutSt.below h x.2, Upd.below x.2⟩
  · exact (drop_made h.lower (fun k x => x.2) q3 R K).mono fun e w' x => ⟨x.1, OutSt.mono x.2.1 (fun k y => y.1), x.2.2.mono (fun k _ y => y.1)⟩
end Go.Proofs.Ytcnheikckfhniaa
