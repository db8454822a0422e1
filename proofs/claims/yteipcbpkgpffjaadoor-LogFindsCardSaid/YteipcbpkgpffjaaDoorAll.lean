/-
  The code's All: the frames with which bytes begin, one by one, each in a block of its own. Conditions: those of each theorem ('SrcAt': memory holds the bytes and the table; 'Caller': a round's state hangs on its own blocks).
-/
import Derived.Test.YteipcbpkgpffjaaDoorWhole
namespace Go.Proofs.YteipcbpkgpffjaaDoor
open Go.RowKit Go.Shelf
set_option maxRecDepth 100000
attribute [local go_sem] Oper.semAt_some

/-- What All hands out. -/
def AllOut (w : World) (xs : List UInt8) (m : Nat) (e : Ending) (w' : World) : Prop :=
  ∃ B a c, e = .returned (.func (.func 74) #[] #[.pointer (some ⟨B, 0, none⟩)]) ∧ w'.cell? ⟨B, 0, none⟩ = some (.slice a m c) ∧ w.heap.size ≤ B ∧ B < w'.heap.size ∧ IsBytes w' a xs ∧ m ≤ c ∧ c ≤ maxLen ∧ (a = none → c = 0) ∧
    (∀ x, a = some x → w.heap.size ≤ x.block) ∧ Below w.heap.size w w'

set_option maxHeartbeats 800000 in
theorem code_all (a : Option Addr) (xs : List UInt8) (m c : Nat) (w : World) (hn : xs.length = m) (hx : IsBytes w a xs) (hnc : a = none → c = 0) (hl : m ≤ 140737488355328) :
    Calls Tryd.prog 58 #[.slice a m c] w (AllOut w xs m) := by
  go_enter Tryd.func58, Tryd.ntmps58
  go_wp2_with fail
  refine (clone_bytes a xs m c w hn hx hnc hl).mono ?_
  rintro e w1 ⟨⟨a', c', rfl, hr⟩, b1⟩
  obtain ⟨g1, -, g3, g4, g5⟩ := bytes_of_row hr
  have hadr := own_addr hr
  clear hr
  go_wp2
  go_ret
  exact ⟨w1.heap.size, a', c', rfl, by simp, b1.size, by simp, g1.below (upd_box _), g3, g4, g5, fun x hx => (hadr x hx).1, b1.trans ((upd_box _).mono b1.size)⟩

/-- What a round of All is asked, and answers: the bytes lie in a block that is new. -/
def AllRounds (n l : Nat) (L : List (List UInt8)) (J Jx : Nat → (Nat → Prop) → World → Prop) : Prop :=
  ∀ (i : Nat) (S : Nat → Prop) (W1 W : World) (ad : Option Addr) (m c : Nat) (hi : i < L.length), J i S W1 → Below W1.heap.size W1 W → L[i].length = m → IsBytes W ad L[i] → m ≤ c → c ≤ maxLen → (ad = none → c = 0) → (∀ x, ad = some x → W1.heap.size ≤ x.block ∧ x.block < W.heap.size) →
    YieldAt Fence.wide n Tryd.prog l #[.int .i64 (endOf 0 (L.take (i + 1)) : Nat), .slice ad m c] W fun e W' =>
      (e = .returned (.bool true) ∧ ∃ S', J (i + 1) S' W' ∧ Grows S W1 S' W') ∨ (e = .returned (.bool false) ∧ ∃ S', Jx i S' W' ∧ Grows S W1 S' W')

/-- All's own state in its loop: the caller's; the box of yield; what the loop itself wants. -/
def InAll (J : Nat → (Nat → Prop) → World → Prop) (l yb D l2 : Nat) (r : Loop) (i : Nat) (T : Nat → Prop) (W : World) : Prop :=
  ∃ S, J i S W ∧ (∀ k, S k → k < W.heap.size) ∧ T = (fun k => S k ∨ k = yb ∨ k = D ∨ k = l2) ∧ ¬ S yb ∧ ¬ S D ∧ ¬ S l2 ∧ Boxed W yb 110 (.func (.yield l) #[] #[]) ∧ W.heap[D]? = some (.deferred (some [])) ∧ W.heap[l2]? = some (.loop r)
theorem InAll.caller {J : Nat → (Nat → Prop) → World → Prop} (hJ : Caller J) (l yb D l2 : Nat) (r : Loop) : Caller (InAll J l yb D l2 r) := by
  constructor
  · rintro i T W ⟨S, hj, hlt, rfl, h1, h2, h3, g1, g2, g3⟩ k (h | rfl | rfl | rfl)
    · exact hlt k h
    · exact g1.lt
    · exact heap_lt g2
    · exact heap_lt g3
  · rintro i T W W' ⟨S, hj, hlt, rfl, h1, h2, h3, g1, g2, g3⟩ hu
    have hj' := hJ.keep hj (hu.sub (fun k h hs => h (.inl hs)))
    exact ⟨S, hj', hJ.lt hj', rfl, h1, h2, h3, heap_upd g1 hu (fun h => h (.inr (.inl rfl))), heap_upd g2 hu (fun h => h (.inr (.inr (.inl rfl)))), heap_upd g3 hu (fun h => h (.inr (.inr (.inr rfl))))⟩

theorem run_eql_func_nil {P : Program} (w : World) (t : TypeId) {d : TypeDesc} (f : Fn) (x y : Array Value) (h : P.underlying t = some d) (hd : (match d with | .func .. => true | _ => false) = true) : (binOp .eql t (.func f x y) .nilFunc).run P w = .ok (.bool false) w := by
  have h1 : ∀ k : Nat, (Op.equalIn (k + 1) t (.func f x y) .nilFunc).run P w = .ok false w := fun k => by
    cases d <;> simp_all [Op.equalIn, run_underlying h]
  simp only [binOp]
  simp [Op.equal, Op.maxDepth, h1 9999]

/-- The round that a clone is handed to. -/
theorem all_round {k l i q m c : Nat} {L : List (List UInt8)} {J Jx : Nat → (Nat → Prop) → World → Prop} {S : Nat → Prop} {V V' W : World} {a : Option Addr} {hi : i < L.length} (hY : ∀ k, AllRounds k l L J Jx) (hj : J i S V) (hb : Below V'.heap.size V' W) (hl : L[i].length = m)
    (hr : W.ownsRow V'.heap.size 5 1 (.slice a m c) m (L[i].map bval)) (hq : endOf 0 (L.take (i + 1)) = q) (hv : Below V.heap.size V V' := by first | exact (Below.refl _ _).drew | exact Below.refl _ _) :
    ∃ fn tmps assign body, (Instr.yield l #[.int .i64 (q : Int), .slice a m c]).run Tryd.prog W = .ok (.round l fn tmps assign body) W ∧
      Hid (∀ l2, RoundIn (Fence.wide.inRound l2) k Tryd.prog l fn tmps assign body W fun e W' =>
        (e = .returned (.bool true) ∧ ∃ S', J (i + 1) S' W' ∧ Grows S V S' W') ∨ (e = .returned (.bool false) ∧ ∃ S', Jx i S' W' ∧ Grows S V S' W')) ∧ Hid (Below V.heap.size V W) := by
  obtain ⟨g1, -, g3, g4, g5⟩ := bytes_of_row hr
  have hB := hv.trans (hb.mono hv.size)
  obtain ⟨fn, tmps, assign, body, hy, hR⟩ := hY k i S V W a m c hi hj hB hl g1 g3 g4 g5 (fun x hx => ⟨Nat.le_trans hv.size (own_addr hr x hx).1, (own_addr hr x hx).2⟩)
  rw [hq] at hy
  exact ⟨fn, tmps, assign, body, hy, Lib.hid (fun _ => hR), Lib.hid hB⟩

theorem round_either {e : Ending} {A B : Prop} (h : (e = .returned (.bool true) ∧ A) ∨ (e = .returned (.bool false) ∧ B)) : ∃ v, e = .returned (.bool v) ∧ Hid ((v = true ∧ A) ∨ (v = false ∧ B)) := by
  rcases h with ⟨h1, h2⟩ | ⟨h1, h2⟩
  · exact ⟨true, h1, Lib.hid (.inl ⟨rfl, h2⟩)⟩
  · exact ⟨false, h1, Lib.hid (.inr ⟨rfl, h2⟩)⟩

theorem boxed_cell {W : World} {B : Nat} {t : TypeId} {v : Value} (h : W.heap[B]? = some (.cells #[v] t (0, 0))) : W.cell? ⟨B, 0, none⟩ = some v := Boxed.cell (t := t) h

/-- Behind a round: All's own state again. -/
theorem in_all_next {J' : Nat → (Nat → Prop) → World → Prop} (hJ' : Caller J') {l yb D l2 i' : Nat} {r' : Loop} {S0 S1 : Nat → Prop} {V V1 W3 w' : World} (u1 : Upd (fun k => k = l2) V V1)
    (y1 : Boxed V1 yb 110 (.func (.yield l) #[] #[])) (d1 : V1.heap[D]? = some (.deferred (some []))) (n1 : ¬ S0 yb) (n2 : ¬ S0 D) (n3 : ¬ S0 l2) (hj3 : J' i' S1 W3) (hg3 : Grows S0 V1 S1 W3)
    (u' : Upd (fun k => k = l2) W3 w') (hl' : w'.heap[l2]? = some (.loop r')) (hy : yb ≠ l2) (hD : D ≠ l2) (hl : l2 < V1.heap.size) :
    ∃ T', InAll J' l yb D l2 r' i' T' w' ∧ Grows (fun k => S0 k ∨ k = yb ∨ k = D ∨ k = l2) V T' w' := by
  have m1 := hg3.kept y1.lt n1
  have m2 := hg3.kept (heap_lt d1) n2
  have m3 := hg3.kept hl n3
  have hj' := hJ'.keep hj3 (u'.sub (fun k h hs => m3 (by rw [← h]; exact hs)))
  refine ⟨fun k => S1 k ∨ k = yb ∨ k = D ∨ k = l2, ⟨S1, hj', hJ'.lt hj', rfl, m1, m2, m3, heap_upd (heap_upd y1 hg3.upd n1) u' hy, heap_upd (heap_upd d1 hg3.upd n2) u' hD, hl'⟩, ?_, fun k h => ?_⟩
  · exact (u1.sub (fun k h => .inr (.inr (.inr h)))).on ((hg3.upd.sub (fun k h => .inl h)).on (u'.sub (fun k h => .inr (.inr (.inr h)))))
  · rcases h with h | h
    · rcases hg3.new k h with h | h
      · exact .inl (.inl h)
      · exact .inr (Nat.le_trans u1.size h)
    · exact .inl (.inr h)
/-- At All's end: the caller's state, and what has turned. -/
theorem all_fin {J : Nat → (Nat → Prop) → World → Prop} (hJ : Caller J) {i M : Nat} {S S1 T : Nat → Prop} {W w2 w3 w4 : World} (B2 : Below M W w2) (hg : Grows T w2 (fun k => S1 k ∨ k = M ∨ k = M + 2 ∨ k = M + 3) w3) (hj : J i S1 w3) (n2 : ¬ S1 (M + 2)) (n3 : ¬ S1 (M + 3))
    (u4 : Upd (fun k => k = M + 3) w3 w4) (hM : W.heap.size = M) (hz : M ≤ w2.heap.size) (hS : ∀ k, M ≤ k → ¬ S k) (hT : ∀ k, T k → S k ∨ k = M ∨ k = M + 2 ∨ k = M + 3) :
    J i S1 (w4.putObj (M + 2) (.deferred none)) ∧ Grows S W S1 (w4.putObj (M + 2) (.deferred none)) := by
  subst hM
  have u5 := upd_put (S := fun k => k = W.heap.size + 2) (W := w4) (l := W.heap.size + 2) (.deferred none) rfl
  refine ⟨hJ.keep (hJ.keep hj (u4.sub (fun k h hs => n3 (by rw [← h]; exact hs)))) (u5.sub (fun k h hs => n2 (by rw [← h]; exact hs))), ?_, fun k h => ?_⟩
  · refine (below_upd _ B2).trans (S' := fun k => S k ∨ W.heap.size ≤ k) ((hg.upd.sub fun k h => ?_).on ((u4.sub fun k h => .inr (by omega)).on (u5.sub fun k h => .inr (by omega)))) (fun k hk h => h.elim id (fun h => by omega))
    rcases hT k h with h | h
    · exact .inl h
    · exact .inr (by omega)
  · rcases hg.new k (.inl h) with h | h
    · rcases hT k h with h | h
      · exact .inl h
      · exact .inr (by omega)
    · exact .inr (by omega)

set_option maxHeartbeats 4000000 in
theorem all_walk (n l : Nat) (B : Nat) (a : Option Addr) (xs : List UInt8) (m c : Nat) (J Jx : Nat → (Nat → Prop) → World → Prop) (hJ : Caller J) (hJx : Caller Jx) (hY : ∀ k, AllRounds k l (frames xs) J Jx)
    (S : Nat → Prop) (W : World) (hS : SrcAt W S B a xs m c) (h0 : J 0 S W) :
    CallsIn Fence.wide n Tryd.prog 74 #[.func (.yield l) #[] #[], .pointer (some ⟨B, 0, none⟩)] W fun e W' => (∃ v, e = .returned v) ∧
      ∃ S', Grows S W S' W' ∧ (J (frames xs).length S' W' ∨ ∃ i, i < (frames xs).length ∧ Jx i S' W') := by
  refine callsIn_of_wp_marks Tryd.func74 rfl trivial ?_ rfl
  simp only [Tryd.ntmps74, List.size_toArray, List.length_cons, List.length_nil, Nat.reduceAdd, Nat.reduceSub, Array.replicate_succ, Array.replicate_zero, List.push_toArray, List.append_toArray, List.nil_append, List.cons_append]
  obtain ⟨w0, hw0⟩ : ∃ w0, W.alloc (.cells #[.func (.yield l) #[] #[]] 110) = w0 := ⟨_, rfl⟩
  have A0 : Below W.heap.size W w0 := by rw [← hw0]; exact upd_box _
  have hb0 : Boxed w0 W.heap.size 110 (.func (.yield l) #[] #[]) := by rw [← hw0]; exact Boxed.new _ _ _
  have hz0 : w0.heap.size = W.heap.size + 1 := by rw [← hw0]; simp
  have hs0 := hS.below A0
  have hc0 := hs0.box
  have c1 := hb0.cell
  have HS := Lib.hid hS
  have Hs0 := Lib.hid hs0
  clear hS hs0
  have hnf := run_eql_func_nil (P := Tryd.prog) w0 110 (.yield l) #[] #[] Tryd.underlying110 rfl
  gi_wp2_with fail
  refine ⟨trivial, fun h => by simp [Fence.wide] at h, ?_⟩
  refine (callsIn_wide.2 (each_new a m c _)).mono ?_
  rintro e w1 ⟨rfl, rfl⟩
  gi_wp2_with fail
  clear hnf hc0 c1 hw0
  obtain ⟨w1, hw1⟩ : ∃ w1, w0.alloc (.cells #[.slice a m c] 22) = w1 := ⟨_, rfl⟩
  have hz1 : w1.heap.size = W.heap.size + 2 := by rw [← hw1]; simp; omega
  have B1 : Below W.heap.size W w1 := by rw [← hw1]; exact A0.trans ((upd_box _).mono A0.size)
  have hb1 : Boxed w1 W.heap.size 110 (.func (.yield l) #[] #[]) := by rw [← hw1]; exact hb0.alloc _
  have hbox1 : w1.cell? ⟨W.heap.size + 1, 0, none⟩ = some (.slice a m c) := by rw [← hw1, ← hz0]; simp
  have hlt := hJ.lt h0
  have hs1 := HS.out.below B1
  have hsrc0 : SrcAt w1 (fun k => S k ∨ k = W.heap.size ∨ k = W.heap.size + 2 ∨ k = W.heap.size + 3) (W.heap.size + 1) a xs m c := by
    have hl := HS.out.bytes.lt
    have hg := HS.out.halves.lt
    refine ⟨hbox1, by omega, fun h => ?_, hs1.bytes, fun h0 x hx h => ?_, hs1.halves, fun h => ?_, hs1.len, hs1.cap, hs1.most, hs1.nil⟩
    · rcases h with h | h
      · have := hlt _ h; omega
      · omega
    · rcases h with h | h
      · exact HS.out.aS h0 x hx h
      · have := hl h0 x hx; omega
    · rcases h with h | h
      · exact HS.out.hS h
      · omega
  have hz0' : w0.heap.size + 1 = W.heap.size + 2 := by omega
  rw [hw1]
  clear hw1 hb0 hs1 hbox1 A0
  refine range_of_call (gf := 78) (lb := #[.pointer (some ⟨W.heap.size + 1, 0, none⟩)]) rfl (enters_of Tryd.func78 (by kernel_rfl) rfl) ?_
  intro r r1 r2 r3 r4 r5 r6
  rw [hz1]
  intro w2 b2 hz2 hD hl
  have B2 : Below W.heap.size W w2 := B1.trans (b2.mono (by omega))
  have b2' : Below w1.heap.size w1 w2 := by rw [hz1]; exact b2
  have hS0 : ∀ k, W.heap.size ≤ k → ¬ S k := fun k hk h => by have := hlt k h; omega
  refine (each_walk (n - 1) (W.heap.size + 3) (W.heap.size + 1) a xs m c _ (InAll Jx l W.heap.size (W.heap.size + 2) (W.heap.size + 3) (halted r .ret)) (InAll.caller hJ l W.heap.size (W.heap.size + 2) (W.heap.size + 3) r) ?hY _ w2 (hsrc0.below b2')
    ⟨S, hJ.below h0 B2, fun k h => by have := hlt k h; omega, rfl, hS0 _ (Nat.le_refl _), hS0 _ (by omega), hS0 _ (by omega), heap_below hb1 b2', hD, hl⟩).mono ?hQ
  case hY =>
    clear hD hl b2' B2 hz2 b2 hsrc0 hb1 B1 hz1 hz0' hlt hS0 h0 HS Hs0
    rintro k i T V ad m' c' hi ⟨S0, hj, hlt0, rfl, n1, n2, n3, g1, g2, g3⟩ hlen hbytes hmc hcm' hnil hown
    refine YieldAt.mono (R := RoundOut (InAll J l W.heap.size (W.heap.size + 2) (W.heap.size + 3) r) (InAll Jx l W.heap.size (W.heap.size + 2) (W.heap.size + 3) (halted r .ret)) i (fun k => S0 k ∨ k = W.heap.size ∨ k = W.heap.size + 2 ∨ k = W.heap.size + 3) V) ?_ (fun _ _ h => h)
    refine yield_of_walk g3 r1 r2 (by rw [r4]; rfl) ?_
    intro K hK
    rw [r3, r4, r5]
    have HK := Lib.hid hK
    have R6 := Lib.hid r6
    clear hK r1 r2 r3 r4 r5 r6
    gi_wp2
    refine HK.out _ ?_
    intro V1 u1 hl1
    rw [R6.out]
    clear HK
    have hj1 := hJ.keep hj (u1.sub (fun k h hs => n3 (by rw [← h]; exact hs)))
    have y1 : Boxed V1 W.heap.size _ _ := heap_upd g1 u1 (by omega)
    have d1 := heap_upd g2 u1 (by omega)
    have hby1 : IsBytes V1 ad (frames xs)[i] := hbytes.upd u1 (fun _ x hx h => hown x hx (.inr (.inr (.inr h))))
    have hml : 1 ≤ m' ∧ m' ≤ 60000 := by rw [← hlen]; exact frames_len hi
    have cy := y1.cell
    have HB := Lib.hid hl1
    have HD1 := Lib.hid d1
    have HJ1 := Lib.hid hj1
    have HLEN := Lib.hid hlen
    have HI := Lib.hid hi
    have HYY := Lib.hid hY
    clear hl1 R6 g1 g2 g3 hj hbytes hown hY d1 hj1 hlen
    have hmx : Tryd.prog.follows .mixedOrders = true := by kernel_rfl
    obtain ⟨q, hq⟩ : ∃ q, endOf 0 ((frames xs).take (i + 1)) = q := ⟨_, rfl⟩
    rw [hq]
    have HQ := Lib.hid hq
    clear hq
    gi_wp2_with fail
    gi_region_with_o (first
      | (refine ⟨trivial, fun h => by simp [Fence.wide] at h, ?_⟩; refine (CallsIn.inRound _ (callsIn_wide.2 (clone_bytes ad (frames xs)[i] m' c' _ HLEN.out (hby1.below ?_) hnil (by omega)))).mono ?_; (first | exact (Below.refl _ _).drew | exact Below.refl _ _); rintro e W2 ⟨⟨a2, c2, rfl, hr⟩, b3⟩; obtain ⟨fn, tmps, assign, body, hy, HR, Hb3⟩ := all_round (k := k - 1) HYY.out HJ1.out b3 HLEN.out hr HQ.out; have cy2 := (heap_below (show V1.heap[W.heap.size]? = _ from y1) Hb3.out |> boxed_cell); clear hr b3)
      | (refine ⟨fun h => by simp [Fence.wide] at h, ?_⟩; refine (HR.out _).mono ?_; rintro e W3 h3; obtain ⟨v, rfl, H3⟩ := round_either h3; clear h3))
    all_goals
      rcases H3.out with ⟨rfl, hj3⟩ | ⟨rfl, hj3⟩
      · have Hj3 := Lib.hid hj3
        clear hj3 H3 HR hy cy2 cy
        gi_wp2
        obtain ⟨S1, hj3, hg3⟩ := Hj3.out
        refine ⟨heap_upd HB.out hg3.upd n3, fun w' u' hl' => .inl ⟨rfl, in_all_next hJ u1 y1 HD1.out n1 n2 n3 hj3 hg3 u' hl' (by omega) (by omega) (heap_lt HB.out)⟩⟩
      · have Hj3 := Lib.hid hj3
        clear hj3 H3 HR hy cy2 cy
        gi_wp2
        obtain ⟨S1, hj3, hg3⟩ := Hj3.out
        refine ⟨heap_upd HB.out hg3.upd n3, fun w' u' hl' => .inr ⟨rfl, in_all_next hJx u1 y1 HD1.out n1 n2 n3 hj3 hg3 u' hl' (by omega) (by omega) (heap_lt HB.out)⟩⟩
  case hQ =>
    clear hb1 hD hl hsrc0 b2'
    rintro e w3 ⟨⟨v, rfl⟩, T', hg, hj | ⟨i, hi, hj⟩⟩
    · obtain ⟨S1, hj, hlt1, rfl, n1, n2, n3, g1, g2, g3⟩ := hj
      refine ⟨v, rfl, .inl ⟨g3, fun w4 u4 => ?_⟩⟩
      have hfin := Lib.hid (all_fin (i := (frames xs).length) (J := J) hJ B2 hg hj n2 n3 u4 (by omega) (by omega) hS0 (fun k h => h))
      have g2' := Lib.hid (heap_upd g2 u4 (by omega))
      clear hg hj g1 g2 g3
      gi_wp2
      refine ⟨by simp, .inl ⟨_, _, rfl, run_takeDeferred g2'.out, ?_⟩⟩
      obtain ⟨h1, h2⟩ := hfin.out
      exact ⟨_, results_none rfl _ _ _, ⟨_, rfl⟩, S1, h2, .inl h1⟩
    · obtain ⟨S1, hj, hlt1, rfl, n1, n2, n3, g1, g2, g3⟩ := hj
      refine ⟨v, rfl, .inr ⟨.ret, g3, fun w4 u4 => ?_⟩⟩
      have hfin := Lib.hid (all_fin (i := i) (J := Jx) hJx B2 hg hj n2 n3 u4 (by omega) (by omega) hS0 (fun k h => h))
      have g2' := Lib.hid (heap_upd g2 u4 (by omega))
      have HI := Lib.hid hi
      clear hg hj g1 g2 g3 hi
      gi_wp2
      refine ⟨by simp, .inl ⟨_, _, rfl, run_takeDeferred g2'.out, ?_⟩⟩
      obtain ⟨h1, h2⟩ := hfin.out
      exact ⟨_, results_none rfl _ _ _, ⟨_, rfl⟩, S1, h2, .inr ⟨i, HI.out, h1⟩⟩
end Go.Proofs.YteipcbpkgpffjaaDoor
