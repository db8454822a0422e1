/-
  The code's First. Conditions: those of each theorem ('HalvesAt': memory holds the table).
-/
import Derived.Test.YteipcbpkgpffjaaDoorWhole
namespace Go.Proofs.YteipcbpkgpffjaaDoor
open Go.RowKit Go.Shelf
set_option maxRecDepth 100000
attribute [local go_sem] Oper.semAt_some

theorem run_loadVar_one {P : Program} (w : World) (a : Addr) (ty : TypeId) (v : Value) (d : TypeDesc) (hc : w.cell? a = some v) (hu : P.underlying ty = some d) (hd : aggD d = false) :
    (loadVar ty a).run P w = .ok v w := by
  have ha : (isAgg ty).run P w = .ok false w := by
    unfold isAgg
    rw [Sem.run_bind, run_underlying hu w]
    cases d <;> simp_all [aggD]
  simp [loadVar, Sem.run_bind, ha, hc, go_sem]
/-- Three results that lie in boxes. -/
theorem results_boxes3 {P : Program} {fn : Func} {p q r : Tmp} {tp tq tr : TypeId} (h : fn.results = #[.cell p tp, .cell q tq, .cell r tr]) (tmps : Array Value) (w : World) {bp bq br : Nat} {vp vq vr : Value} {dp dq dr : TypeDesc}
    (hp : tmps.getD p undef = .pointer (some ⟨bp, 0, none⟩)) (hq : tmps.getD q undef = .pointer (some ⟨bq, 0, none⟩)) (hr : tmps.getD r undef = .pointer (some ⟨br, 0, none⟩))
    (cp : w.cell? ⟨bp, 0, none⟩ = some vp) (cq : w.cell? ⟨bq, 0, none⟩ = some vq) (cr : w.cell? ⟨br, 0, none⟩ = some vr)
    (up : P.underlying tp = some dp) (ap : aggD dp = false) (uq : P.underlying tq = some dq) (aq : aggD dq = false) (ur : P.underlying tr = some dr) (ar : aggD dr = false) :
    (results fn tmps).run P w = .ok (.tuple #[vp, vq, vr]) w := by
  have lp := run_loadVar_one (P := P) w _ tp vp dp cp up ap
  have lq := run_loadVar_one (P := P) w _ tq vq dq cq uq aq
  have lr := run_loadVar_one (P := P) w _ tr vr dr cr ur ar
  have hp' : tmps[p]?.getD undef = .pointer (some ⟨bp, 0, none⟩) := by simpa using hp
  have hq' : tmps[q]?.getD undef = .pointer (some ⟨bq, 0, none⟩) := by simpa using hq
  have hr' : tmps[r]?.getD undef = .pointer (some ⟨br, 0, none⟩) := by simpa using hr
  simp [results, h, hp', hq', hr', asAddr, lp, lq, lr]

/-- The three results' boxes. -/
structure Three (W : World) (s : Nat) (v p e : Value) : Prop where
  b0 : Boxed W s 22 v
  b1 : Boxed W (s + 1) 3 p
  b2 : Boxed W (s + 2) 27 e
theorem Three.upd {S : Nat → Prop} {W W' : World} {s : Nat} {v p e : Value} (h : Three W s v p e) (hu : Upd S W W') (h0 : ¬ S s) (h1 : ¬ S (s + 1)) (h2 : ¬ S (s + 2)) : Three W' s v p e :=
  ⟨heap_upd h.b0 hu h0, heap_upd h.b1 hu h1, heap_upd h.b2 hu h2⟩
theorem Three.below {W W' : World} {s : Nat} {v p e : Value} (h : Three W s v p e) (hb : Below W.heap.size W W') : Three W' s v p e := h.upd (S := fun _ => False) (below_upd _ hb) id id id
theorem Three.set {W : World} {s : Nat} {v p e : Value} (h : Three W s v p e) (v' p' e' : Value) :
    ∃ W', Hid (((W.setCell ⟨s, 0, none⟩ v').setCell ⟨s + 1, 0, none⟩ p').setCell ⟨s + 2, 0, none⟩ e' = W') ∧ Three W' s v' p' e' ∧ Upd (fun k => k = s ∨ k = s + 1 ∨ k = s + 2) W W' := by
  have u0 : Upd (fun k => k = s) W (W.setCell ⟨s, 0, none⟩ v') := upd_set _ _
  have h0 := h.b0.set v'
  have h1 : Boxed (W.setCell ⟨s, 0, none⟩ v') (s + 1) _ p := heap_upd h.b1 u0 (by omega)
  have h2 : Boxed (W.setCell ⟨s, 0, none⟩ v') (s + 2) _ e := heap_upd h.b2 u0 (by omega)
  generalize W.setCell ⟨s, 0, none⟩ v' = W1 at *
  have u1 : Upd (fun k => k = s + 1) W1 (W1.setCell ⟨s + 1, 0, none⟩ p') := upd_set _ _
  have g0 : Boxed (W1.setCell ⟨s + 1, 0, none⟩ p') s _ v' := heap_upd h0 u1 (by omega)
  have g1 := h1.set p'
  have g2 : Boxed (W1.setCell ⟨s + 1, 0, none⟩ p') (s + 2) _ e := heap_upd h2 u1 (by omega)
  generalize W1.setCell ⟨s + 1, 0, none⟩ p' = W2 at *
  have u2 : Upd (fun k => k = s + 2) W2 (W2.setCell ⟨s + 2, 0, none⟩ e') := upd_set _ _
  exact ⟨_, Lib.hid rfl, ⟨heap_upd g0 u2 (by omega), heap_upd g1 u2 (by omega), g2.set e'⟩, (u0.sub (fun _ x => .inl x)).on ((u1.sub (fun _ x => .inr (.inl x))).on (u2.sub (fun _ x => .inr (.inr x))))⟩

/-- What First is told: the first frame's bytes, in a block of their own. -/
def FirstAt (s D l : Nat) (r : Loop) (i : Nat) (S : Nat → Prop) (W : World) : Prop :=
  i = 0 ∧ S = (fun k => k = s ∨ k = s + 1 ∨ k = s + 2 ∨ k = D ∨ k = l) ∧ (∃ v p e, Three W s v p e) ∧ W.heap[D]? = some (.deferred (some [])) ∧ W.heap[l]? = some (.loop r)
def FirstEnd (L : List (List UInt8)) (s D l : Nat) (r : Loop) (i : Nat) (S : Nat → Prop) (W : World) : Prop :=
  i = 0 ∧ (∀ k, S k → s ≤ k) ∧ (∃ (h : 0 < L.length) (ad : Option Addr) (c : Nat), Three W s (.slice ad L[0].length c) (.int .i64 (7 + L[0].length : Nat)) (.int .i64 0) ∧ IsBytes W ad L[0] ∧ L[0].length ≤ c ∧ c ≤ maxLen ∧ (ad = none → c = 0) ∧ ∀ x, ad = some x → x.block ≠ D ∧ x.block ≠ l) ∧
    W.heap[D]? = some (.deferred (some [])) ∧ W.heap[l]? = some (.loop (halted r .ret))
theorem FirstAt.caller (s D l : Nat) (r : Loop) : Caller (FirstAt s D l r) := by
  constructor
  · rintro i S W ⟨_, rfl, ⟨v, p, e, h1⟩, h2, h3⟩ k (rfl | rfl | rfl | rfl | rfl)
    · exact h1.b0.lt
    · exact h1.b1.lt
    · exact h1.b2.lt
    · exact heap_lt h2
    · exact heap_lt h3
  · rintro i S W W' ⟨hi, rfl, ⟨v, p, e, h1⟩, h2, h3⟩ hu
    exact ⟨hi, rfl, ⟨v, p, e, h1.upd hu (by simp) (by simp) (by simp)⟩, heap_upd h2 hu (by simp), heap_upd h3 hu (by simp)⟩

/-- What the code's First answers. -/
def FirstOut (xs : List UInt8) (e : Ending) (w' : World) : Prop :=
  (frames xs = [] ∧ e = .returned (.tuple #[.slice none 0 0, .int .i64 0, .int .i64 3])) ∨ (∃ (h : 0 < (frames xs).length) (ad : Option Addr) (c : Nat), e = .returned (.tuple #[.slice ad (frames xs)[0].length c, .int .i64 (7 + (frames xs)[0].length : Nat), .int .i64 0]) ∧
    IsBytes w' ad (frames xs)[0] ∧ (frames xs)[0].length ≤ c ∧ c ≤ maxLen ∧ (ad = none → c = 0))

set_option maxHeartbeats 4000000 in
theorem code_first (n : Nat) (a : Option Addr) (xs : List UInt8) (m c : Nat) (w : World) (hH : HalvesAt w) (hn : xs.length = m) (hx : IsBytes w a xs) (hnc : a = none → c = 0) (hc : m ≤ c) (hcm : c ≤ maxLen) :
    CallsIn Fence.wide n Tryd.prog 55 #[.slice a m c] w fun e w' => FirstOut xs e w' ∧ Below w.heap.size w w' := by
  refine callsIn_of_wp_marks Tryd.func55 rfl trivial ?_ rfl
  simp only [Tryd.ntmps55, List.size_toArray, List.length_cons, List.length_nil, Nat.reduceAdd, Nat.reduceSub, Array.replicate_succ, Array.replicate_zero, List.push_toArray, List.append_toArray, List.nil_append, List.cons_append]
  gi_wp2_with fail
  refine ⟨trivial, fun h => by simp [Fence.wide] at h, ?_⟩
  refine (callsIn_wide.2 (each_new a m c _)).mono ?_
  rintro e w1 ⟨rfl, rfl⟩
  obtain ⟨w0, hw0⟩ : ∃ w0, ((w.alloc (.cells #[.slice none 0 0] 22)).alloc (.cells #[.int .i64 0] 3)).alloc (.cells #[.int .i64 0] 27) = w0 := ⟨_, rfl⟩
  have A0 : Below w.heap.size w w0 := by rw [← hw0]; exact (((Below.refl _ w).alloc (by simp) _).alloc (by simp) _).alloc (by simp; omega) _
  have hz0 : w0.heap.size = w.heap.size + 3 := by rw [← hw0]; simp
  have h30 : Three w0 w.heap.size (.slice none 0 0) (.int .i64 0) (.int .i64 0) := by
    rw [← hw0]
    refine ⟨((Boxed.new w _ _).alloc _).alloc _, ?_, ?_⟩
    · have h := Boxed.new (w.alloc (.cells #[.slice none 0 0] 22)) 3 (.int .i64 0)
      rw [World.size_alloc] at h
      exact h.alloc _
    · have h := Boxed.new ((w.alloc (.cells #[.slice none 0 0] 22)).alloc (.cells #[.int .i64 0] 3)) 27 (.int .i64 0)
      rw [World.size_alloc, World.size_alloc] at h
      exact h
  gi_wp2_with fail
  clear hw0
  obtain ⟨w1, hw1⟩ : ∃ w1, w0.alloc (.cells #[.slice a m c] 22) = w1 := ⟨_, rfl⟩
  have hz1 : w1.heap.size = w.heap.size + 4 := by rw [← hw1]; simp; omega
  have B1 : Below w.heap.size w w1 := by rw [← hw1]; exact A0.trans ((upd_box _).mono A0.size)
  have h31 : Three w1 w.heap.size (.slice none 0 0) (.int .i64 0) (.int .i64 0) := by rw [← hw1]; exact h30.below (upd_box _)
  have hsrc0 : SrcAt w1 (fun k => k = w.heap.size ∨ k = w.heap.size + 1 ∨ k = w.heap.size + 2 ∨ k = w.heap.size + 4 ∨ k = w.heap.size + 5) (w.heap.size + 3) a xs m c := by
    have hlt := hx.lt
    have hg := hH.lt
    refine ⟨?_, by omega, by omega, hx.below B1, fun h0 x hx' => ?_, hH.below B1, by omega, hn, hc, hcm, hnc⟩
    · rw [← hw1, ← hz0]; simp
    · have := hlt h0 x hx'; omega
  rw [hw1]
  clear hw1 h30
  refine range_of_call (gf := 78) (lb := #[.pointer (some ⟨w.heap.size + 3, 0, none⟩)]) rfl (enters_of Tryd.func78 (by kernel_rfl) rfl) ?_
  intro r r1 r2 r3 r4 r5 r6
  rw [hz1]
  intro w2 b2 hz2 hD hl
  have B2 : Below w.heap.size w w2 := B1.trans (b2.mono (by omega))
  have b2' : Below w1.heap.size w1 w2 := by rw [hz1]; exact b2
  refine (each_walk (n - 1) (w.heap.size + 5) (w.heap.size + 3) a xs m c _ (FirstEnd (frames xs) w.heap.size (w.heap.size + 4) (w.heap.size + 5) r) (FirstAt.caller w.heap.size (w.heap.size + 4) (w.heap.size + 5) r) ?hY _ w2 (hsrc0.below b2') ⟨rfl, rfl, ⟨_, _, _, h31.below b2'⟩, hD, hl⟩).mono ?hQ
  case hY =>
    clear hl hD b2' B2 hz2 b2 hsrc0 h31 B1 hz1 hz0 A0
    rintro k i S W ad m' c' hi ⟨rfl, rfl, ⟨v0, p0, e0, h1⟩, h2, h3⟩ hlen hbytes hmc hcm' hnil hown
    refine YieldAt.mono (R := RoundOut (FirstAt w.heap.size (w.heap.size + 4) (w.heap.size + 5) r) (FirstEnd (frames xs) w.heap.size (w.heap.size + 4) (w.heap.size + 5) r) 0 (fun k => k = w.heap.size ∨ k = w.heap.size + 1 ∨ k = w.heap.size + 2 ∨ k = w.heap.size + 4 ∨ k = w.heap.size + 5) W) ?_ (fun _ _ h => h)
    refine yield_of_walk h3 r1 r2 (by rw [r4]; rfl) ?_
    intro K hK
    rw [r3, r4, r5]
    have HK := Lib.hid hK
    have R6 := Lib.hid r6
    clear hK r1 r2 r3 r4 r5 r6
    gi_wp2
    refine HK.out _ ?_
    intro W1 u1 hl1
    rw [R6.out]
    clear HK
    have g1 := h1.upd u1 (by omega) (by omega) (by omega)
    have g2 := heap_upd h2 u1 (by omega)
    have hby1 : IsBytes W1 ad (frames xs)[0] := hbytes.upd u1 (fun _ x hx h => hown x hx (by omega))
    have HB := Lib.hid hl1
    clear hl1 R6 h1 h2 h3
    have hml : 1 ≤ m' ∧ m' ≤ 60000 := by rw [← hlen]; exact frames_len hi
    have he1 : endOf 0 ((frames xs).take 1) = 7 + m' := by
      have h := endOf_take hi
      rw [h, hlen]
      simp [endOf]
    have HE := Lib.hid he1
    have HLEN := Lib.hid hlen
    clear he1
    generalize endOf 0 ((frames xs).take 1) = q at *
    gi_wp2_with fail
    refine ⟨trivial, fun h => by simp [Fence.wide] at h, ?_⟩
    refine (CallsIn.inRound _ (callsIn_wide.2 (clone_bytes ad (frames xs)[0] m' c' W1 hlen hby1 hnil (by omega)))).mono ?_
    rintro e W2 ⟨⟨a', cc, rfl, hr⟩, b3⟩
    obtain ⟨gb, -, gc, gm, gn⟩ := bytes_of_row hr
    have hadr := Lib.hid (own_addr hr)
    have g3 := g1.below b3
    have c0 := g3.b0.cell
    have c1 := g3.b1.cell
    have c2 : W2.cell? ⟨w.heap.size + 1 + 1, 0, none⟩ = some e0 := g3.b2.cell
    have f0 := g3.b0.frozen
    have f1 := g3.b1.frozen
    have f2 : W2.frozen? ⟨w.heap.size + 1 + 1, 0, none⟩ = false := g3.b2.frozen
    have HB2 := Lib.hid (heap_below HB.out b3)
    have HD2 := Lib.hid (heap_below g2 b3)
    have hsz : Hid (w.heap.size + 2 < W1.heap.size ∧ w.heap.size + 4 < W1.heap.size ∧ w.heap.size + 5 < W1.heap.size) := ⟨g1.b2.lt, heap_lt g2, heap_lt HB.out⟩
    obtain ⟨W3, hW3, g4, u4⟩ := g3.set (.slice a' m' cc) (.int .i64 (q : Int)) (.int .i64 0)
    clear hr hlen g2 hby1 hnil hbytes hown
    gi_wp2
    have e3 := hW3.out
    rw [show w.heap.size + 2 = w.heap.size + 1 + 1 from rfl] at e3
    rw [e3]
    clear e3 hW3 c0 c1 c2 f0 f1 f2
    obtain ⟨z0, z1, z2⟩ := hsz.out
    refine ⟨heap_upd HB2.out u4 (by omega), fun w' u' hl' => .inr ⟨rfl, (fun k => k = w.heap.size ∨ k = w.heap.size + 1 ∨ k = w.heap.size + 2 ∨ k = w.heap.size + 4 ∨ k = w.heap.size + 5), ⟨rfl, fun k h => by omega, ⟨hi, a', cc, ?_, ?_, by rw [HLEN.out]; exact gc, gm, gn, fun x hx => ?_⟩, heap_upd (heap_upd HD2.out u4 (by omega)) u' (by omega), hl'⟩, ?_, fun _ h => .inl h⟩⟩
    · rw [HLEN.out, ← HE.out]
      exact g4.upd u' (by omega) (by omega) (by omega)
    · exact (gb.upd u4 (fun _ x hx h => by have := hadr.out x hx; omega)).upd u' (fun _ x hx h => by have := hadr.out x hx; omega)
    · have := hadr.out x hx
      omega
    · exact (u1.sub (by omega)).on ((below_upd _ b3).trans ((u4.sub (T := fun k => k = w.heap.size ∨ k = w.heap.size + 1 ∨ k = w.heap.size + 2 ∨ k = w.heap.size + 4 ∨ k = w.heap.size + 5) (by omega)).on (u'.sub (by omega))) (fun _ _ h => h))
  case hQ =>
    clear hl hD b2' hsrc0 r3 r4 r5 r6 hz0 A0
    rintro e w3 ⟨⟨v, rfl⟩, S', hg, hj | ⟨i, hi, rfl, hS, ⟨hL, ad, cc, h1, hby, gc, gm, gn, hadr⟩, h2, h3⟩⟩
    · obtain ⟨hL, rfl, ⟨v0, p0, e0, h1⟩, h2, h3⟩ := hj
      refine ⟨v, rfl, .inl ⟨h3, fun w4 u4 => ?_⟩⟩
      have g1 := h1.upd u4 (by omega) (by omega) (by omega)
      have g2 := heap_upd h2 u4 (by omega)
      have c0 := g1.b0.cell
      have c1 := g1.b1.cell
      have c2 : w4.cell? ⟨w.heap.size + 1 + 1, 0, none⟩ = some e0 := g1.b2.cell
      have f0 := g1.b0.frozen
      have f1 := g1.b1.frozen
      have f2 : w4.frozen? ⟨w.heap.size + 1 + 1, 0, none⟩ = false := g1.b2.frozen
      have hB4 : Below w.heap.size w w4 := B2.trans ((hg.upd.on (u4.sub (by omega))).toBelow (by omega) (by omega))
      have HL := Lib.hid hL
      have HD := Lib.hid g2
      obtain ⟨w5, hW5, g5, u5⟩ := g1.set (.slice none 0 0) (.int .i64 0) (.int .i64 3)
      clear h1 h2 h3 hg hL g2
      gi_wp2
      have e3 := hW5.out
      rw [show w.heap.size + 2 = w.heap.size + 1 + 1 from rfl] at e3
      rw [e3]
      clear e3 hW5 c0 c1 c2 f0 f1 f2
      have g6 := g5.upd (upd_put (S := fun k => k = w.heap.size + 4) (l := w.heap.size + 4) (.deferred none) rfl) (by omega) (by omega) (by omega)
      have hB5 : Below w.heap.size w w5 := hB4.trans (u5.toBelow hB4.size (by omega))
      refine ⟨by simp, .inl ⟨_, _, rfl, run_takeDeferred (heap_upd HD.out u5 (by omega)), ?_⟩⟩
      exact ⟨_, results_boxes3 rfl _ _ rfl rfl rfl g6.b0.cell g6.b1.cell g6.b2.cell Tryd.underlying22 rfl Tryd.underlying3 rfl Tryd.underlying27 rfl, .inl ⟨List.length_eq_zero_iff.1 HL.out, rfl⟩, hB5.trans (below_put _ (by omega) hB5.size)⟩
    · refine ⟨v, rfl, .inr ⟨.ret, h3, fun w4 u4 => ?_⟩⟩
      have g1 := h1.upd u4 (by omega) (by omega) (by omega)
      have g2 := heap_upd h2 u4 (by omega)
      have hb4 := hby.upd u4 (fun _ x hx h => by have := hadr x hx; omega)
      have hB4 : Below w.heap.size w w4 := by
        have u3 : Below w.heap.size w2 w3 := hg.upd.toBelow (by omega) (by omega)
        exact (B2.trans u3).trans (u4.toBelow (B2.trans u3).size (by omega))
      have HD := Lib.hid g2
      clear h1 h2 h3 hg g2 hS hby
      gi_wp2
      have u6 := upd_put (S := fun k => k = w.heap.size + 4) (W := w4) (l := w.heap.size + 4) (.deferred none) rfl
      have g6 := g1.upd u6 (by omega) (by omega) (by omega)
      refine ⟨by simp, .inl ⟨_, _, rfl, run_takeDeferred HD.out, ?_⟩⟩
      exact ⟨_, results_boxes3 rfl _ _ rfl rfl rfl g6.b0.cell g6.b1.cell g6.b2.cell Tryd.underlying22 rfl Tryd.underlying3 rfl Tryd.underlying27 rfl,
        .inr ⟨hL, ad, cc, rfl, hb4.upd u6 (fun _ x hx h => by have := hadr x hx; omega), gc, gm, gn⟩, hB4.trans (below_put _ (by omega) hB4.size)⟩
end Go.Proofs.YteipcbpkgpffjaaDoor
