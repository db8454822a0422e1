/-
  The code's load: of a log's file the image and the records are taken, one by one, and what stands behind is cut off. Conditions: those of each theorem ('Both': the pointers lead to a disk that holds D and a log on it that holds L; 'HalvesAt': memory holds the table).
-/
import Derived.Test.YteipcbpkgpffjaaDoorLogCreate
import Derived.Test.YteipcbpkgpffjaaDoorBeside
namespace Go.Proofs.YteipcbpkgpffjaaDoor
open Go.RowKit Go.Shelf
set_option maxRecDepth 100000
attribute [local go_sem] Oper.semAt_some

/-- The log behind i frames. -/
def loadL (L : List (List UInt8)) (fl : Nat) : Nat → LM
  | 0 => LM.bare fl
  | i + 1 => ⟨fl, genT (L.headD []), imgT (L.headD []), (L.take (i + 1)).drop 1, false⟩
theorem loadL_one {L : List (List UInt8)} (fl : Nat) (h : 0 < L.length) : loadL L fl 1 = { LM.bare fl with gen := genT L[0], image := imgT L[0] } := by
  cases L with
  | nil => simp at h
  | cons x R => simp [loadL, LM.bare]
theorem loadL_push {L : List (List UInt8)} (fl : Nat) {i : Nat} (h : i < L.length) (h1 : 1 ≤ i) : loadL L fl (i + 1) = (loadL L fl i).push L[i] := by
  obtain ⟨j, rfl⟩ : ∃ j, i = j + 1 := ⟨i - 1, by omega⟩
  simp only [loadL, LM.push]
  rw [List.take_succ_eq_append_getElem h, List.drop_append_of_le_length (by rw [List.length_take]; omega)]
theorem loadL_recs {L : List (List UInt8)} (fl i : Nat) (h1 : 1 ≤ i) (h : i ≤ L.length) : (loadL L fl i).recs.length + 1 = i := by
  obtain ⟨j, rfl⟩ : ∃ j, i = j + 1 := ⟨i - 1, by omega⟩
  simp only [loadL, List.length_drop, List.length_take]
  omega

/-- Between two rounds of load. -/
structure LoadIn (L : List (List UInt8)) (s q e D l p fl : Nat) (r : Loop) (i : Nat) (S : Nat → Prop) (W : World) : Prop where
  lt : ∀ k, S k → k < W.heap.size
  s0 : S s
  se : S e
  sD : S D
  sl : S l
  bs : Boxed W s 30 (.pointer (some ⟨q, 0, none⟩))
  be : Boxed W e 3 (.int .i64 (endOf 0 (L.take i) : Nat))
  hD : W.heap[D]? = some (.deferred (some []))
  hl : W.heap[l]? = some (.loop r)
  le : i ≤ L.length
  ord : q < s ∧ s < e ∧ e < D ∧ D < l
  mem : ∃ T, LogAt W q p T (loadL L fl i) ∧ (∀ k, T k → S k) ∧ ∀ k, T k → k = q ∨ l < k
theorem LoadIn.caller (L : List (List UInt8)) (s q e D l p fl : Nat) (r : Loop) : Caller (LoadIn L s q e D l p fl r) := by
  constructor
  · intro i S W h k hk
    exact h.lt k hk
  · intro i S W W' h hu
    obtain ⟨T, h1, h2, h3⟩ := h.mem
    exact ⟨fun k hk => Nat.lt_of_lt_of_le (h.lt k hk) hu.size, h.s0, h.se, h.sD, h.sl, heap_upd h.bs hu (fun x => x h.s0), heap_upd h.be hu (fun x => x h.se), heap_upd h.hD hu (fun x => x h.sD), heap_upd h.hl hu (fun x => x h.sl), h.le, h.ord,
      ⟨T, h1.upd hu (fun k hk x => x (h2 k hk)), h2, h3⟩⟩

/-- Behind a round of load. -/
theorem load_next {L : List (List UInt8)} {s q e D l p fl : Nat} {r r' : Loop} {i : Nat} {S T T2 : Nat → Prop} {W1 W V W2 w' : World} {u : Value} (hj : LoadIn L s q e D l p fl r i S W1) (hb : Below W1.heap.size W1 W) (u1 : Upd (fun k => k = l) W V) (hi : i < L.length)
    (hl2 : LogAt W2 q p T2 (loadL L fl (i + 1))) (U2 : Upd T V W2) (hT : ∀ k, T k → S k) (hT' : ∀ k, T k → k = q ∨ l < k) (hT2 : ∀ k, T2 k → T k ∨ W1.heap.size ≤ k)
    (hu : u = .int .i64 (endOf 0 (L.take (i + 1)) : Nat)) (u' : Upd (fun k => k = l) (W2.setCell ⟨e, 0, none⟩ u) w') (hl' : w'.heap[l]? = some (.loop r')) :
    ∃ S', LoadIn L s q e D l p fl r' (i + 1) S' w' ∧ Grows S W1 S' w' := by
  subst hu
  obtain ⟨o1, o2, o3, o4⟩ := hj.ord
  have hs1 := hb.size
  have hs2 := u1.size
  have hs3 := U2.size
  have hs4 := u'.size
  rw [setCell_size] at hs4
  have hlW : l < W1.heap.size := heap_lt hj.hl
  have hneT : ∀ k, k ≤ l → k ≠ q → ¬ T k := fun k h1 h2 h => by rcases hT' k h with x | x <;> omega
  have hneT2 : ∀ k, k ≤ l → k ≠ q → ¬ T2 k := fun k h1 h2 h => by
    rcases hT2 k h with x | x
    · exact hneT k h1 h2 x
    · omega
  have uset : Upd (fun k => k = e) W2 (W2.setCell ⟨e, 0, none⟩ (.int .i64 (endOf 0 (L.take (i + 1)) : Nat))) := upd_set _ _
  have go : ∀ {k : Nat} {o : Obj}, k ≤ l → k ≠ q → k ≠ l → k ≠ e → W1.heap[k]? = some o → w'.heap[k]? = some o := fun {k o} h1 h2 h3 h4 h =>
    heap_upd (heap_upd (heap_upd (heap_upd (heap_below h hb) u1 h3) U2 (hneT k h1 h2)) uset h4) u' h3
  have hbe : Boxed W2 e _ _ := heap_upd (heap_upd (heap_below hj.be hb) u1 (by omega)) U2 (hneT e (by omega) (by omega))
  have hbe2 : Boxed w' e 3 (.int .i64 (endOf 0 (L.take (i + 1)) : Nat)) := heap_upd (hbe.set _) u' (by omega)
  refine ⟨fun k => S k ∨ T2 k, ⟨fun k hk => ?_, .inl hj.s0, .inl hj.se, .inl hj.sD, .inl hj.sl, go (by omega) (by omega) (by omega) (by omega) hj.bs, hbe2, go (by omega) (by omega) (by omega) (by omega) hj.hD, hl', by omega, hj.ord,
    ⟨T2, (hl2.upd uset (fun k hk x => by subst x; exact hneT2 _ (by omega) (by omega) hk)).upd u' (fun k hk x => by subst x; exact hneT2 _ (Nat.le_refl _) (by omega) hk), fun k hk => .inr hk, fun k hk => ?_⟩⟩, ⟨?_, fun k hk => ?_⟩⟩
  · rcases hk with hk | hk
    · have := hj.lt k hk; omega
    · have := hl2.lt k hk; omega
  · rcases hT2 k hk with x | x
    · exact hT' k x
    · exact .inr (by omega)
  · exact (below_upd S hb).on ((u1.sub (fun k x => by rw [x]; exact hj.sl)).on ((U2.sub hT).on ((uset.sub (fun k x => by rw [x]; exact hj.se)).on (u'.sub (fun k x => by rw [x]; exact hj.sl)))))
  · rcases hk with hk | hk
    · exact .inl hk
    · exact (hT2 k hk).imp (hT k) id

/-- The generation and the image are stored. -/
theorem LogAt.headed {w w4 : World} {q p : Nat} {T : Nat → Prop} {L : LM} (h : LogAt w q p T L) {a : Option Addr} {c : Nat} {im : List UInt8} {g : Nat} (b4 : Below w.heap.size w w4)
    (hr : w4.ownsRow w.heap.size 5 1 (.slice a im.length c) im.length (im.map bval)) (hg : g < 4294967296) (hi : im.length ≤ 60000) :
    LogAt ((w4.setCell ⟨q, 2, none⟩ (.int .i64 (g : Int))).setCell ⟨q, 3, none⟩ (.slice a im.length c)) q p (More T w w4) { L with gen := g, image := im } ∧ Upd T w ((w4.setCell ⟨q, 2, none⟩ (.int .i64 (g : Int))).setCell ⟨q, 3, none⟩ (.slice a im.length c)) := by
  have hq := h.lt q h.own
  have h4 := h.below b4
  obtain ⟨g1, -, g3, g4, g5⟩ := bytes_of_row hr
  have hadr := own_addr hr
  obtain ⟨cur, hb, hs⟩ := h4.blk
  obtain ⟨ia, ic, v, E, m1, m2, m3, m4, m5, m6, m7, m8, m9, m10⟩ := h4.mem
  have u : Upd (fun k => k = q) w4 ((w4.setCell ⟨q, 2, none⟩ (.int .i64 (g : Int))).setCell ⟨q, 3, none⟩ (.slice a im.length c)) := (upd_set _ _).trans (upd_set _ _) (fun _ _ h => h)
  have hsz : ((w4.setCell ⟨q, 2, none⟩ (.int .i64 (g : Int))).setCell ⟨q, 3, none⟩ (.slice a im.length c)).heap.size = w4.heap.size := by simp only [setCell_size]
  refine ⟨⟨.inl h.own, fun k hk => ?_, ⟨_, setCell_heap_at (setCell_heap_at hb), by simp [hs]⟩, ?_, ?_, ?_, ?_, ⟨a, c, v, E, ?_, g1.upd u (fun _ x hx e => by have := (hadr x hx).1; omega), g3, g4, g5, fun x hx => ?_, ?_, m8.upd u (fun g hg e => (m9 g hg).2.1 e) (fun g hg e => (m10 g hg).2 e), fun g hg => ⟨.inl (m9 g hg).1, (m9 g hg).2⟩, fun g hg => ⟨.inl (m10 g hg).1, (m10 g hg).2⟩⟩, h.f2, hg, hi, h.r60⟩,
    (below_upd T b4).trans u (fun k _ e => by rw [e]; exact h.own)⟩
  · rw [hsz]
    rcases hk with hk | hk
    · exact Nat.lt_of_lt_of_le (h.lt k hk) b4.size
    · exact hk.2
  · rw [cell_other (by omega), cell_other (by omega)]; exact h4.c0
  · rw [cell_other (by omega), cell_other (by omega)]; exact h4.c1
  · rw [cell_other (by omega)]; exact cell_same h4.c2
  · rw [cell_other (by omega), cell_other (by omega)]; exact h4.c5
  · exact cell_same ((cell_other (by omega)).trans m1)
  · have h1 := hadr x hx
    refine ⟨.inr h1, by omega, fun e => ?_⟩
    have := h.lt _ (m9 _ e).1
    omega
  · rw [cell_other (by omega), cell_other (by omega)]; exact m7

/-- One more record, out of a block that was nobody's. -/
theorem LogAt.pushed {w w5 : World} {q p : Nat} {T : Nat → Prop} {L : LM} (h : LogAt w q p T L) {a a' av a5 : Option Addr} {c c' cv c5 k : Nat} {E : Nat → Prop} {vals : List Value} {b : List UInt8}
    (m1 : w.cell? ⟨q, 3, none⟩ = some (.slice a L.image.length c)) (m2 : IsBytes w a L.image) (m3 : L.image.length ≤ c) (m4 : c ≤ maxLen) (m5 : a = none → c = 0) (m6 : ∀ x, a = some x → T x.block ∧ x.block ≠ q ∧ (Value.slice av L.recs.length cv).ownBlock ≠ some x.block)
    (h1 : w.ownsRow 0 22 1 (.slice av L.recs.length cv) L.recs.length vals)
    (h2 : ∀ i (h : i < L.recs.length), ∃ ad c, vals[i]? = some (.slice ad L.recs[i].length c) ∧ IsBytes w ad L.recs[i] ∧ L.recs[i].length ≤ c ∧ c ≤ maxLen ∧ (ad = none → c = 0) ∧ ∀ x, ad = some x → E x.block)
    (m9 : ∀ g, (Value.slice av L.recs.length cv).ownBlock = some g → T g ∧ g ≠ q ∧ ¬ E g) (m10 : ∀ g, E g → T g ∧ g ≠ q)
    (hx : IsBytes w a' b) (hc : b.length ≤ c') (hcm : c' ≤ maxLen) (hnil : a' = none → c' = 0) (hfree : ∀ y, a' = some y → y.block < w.heap.size ∧ ¬ T y.block)
    (hk : L.recs.length + 1 = k) (hr5 : w5.ownsRow 0 22 1 (.slice a5 k c5) k (vals ++ [.slice a' b.length c']))
    (hg5 : (w.alloc (.cells #[.slice a' b.length c'] 22)).grownBy w5 (Value.slice av L.recs.length cv).ownBlock)
    (hn5 : ∀ g, (Value.slice a5 k c5).ownBlock = some g → (Value.slice av L.recs.length cv).ownBlock = some g ∨ g = (w.alloc (.cells #[.slice a' b.length c'] 22)).heap.size) (hb : b.length ≤ 60000) :
    ∃ T2, LogAt (w5.setCell ⟨q, 4, none⟩ (.slice a5 k c5)) q p T2 (L.push b) ∧ Upd T w (w5.setCell ⟨q, 4, none⟩ (.slice a5 k c5)) ∧ ∀ k, T2 k → T k ∨ (∃ y, a' = some y ∧ y.block = k) ∨ w.heap.size ≤ k := by
  subst hk
  have hq := h.lt q h.own
  have A4 : Below w.heap.size w (w.alloc (.cells #[.slice a' b.length c'] 22)) := upd_box _
  have hz : (w.alloc (.cells #[.slice a' b.length c'] 22)).heap.size = w.heap.size + 1 := by simp
  have hs5 := hg5.size
  have u1 : Upd (fun g => (Value.slice av L.recs.length cv).ownBlock = some g) w w5 := (below_upd _ A4).trans ((Upd.refl _ _).grown hg5 (fun j hj => .inl hj)) (fun _ _ h => h)
  have u2 : Upd (fun k => k = q) w5 (w5.setCell ⟨q, 4, none⟩ (.slice a5 (L.recs.length + 1) c5)) := upd_set _ _
  have hnq : ¬ (Value.slice av L.recs.length cv).ownBlock = some q := fun e => (m9 q e).2.1 rfl
  have e1 := fun o => u1.cell (p := ⟨q, o, none⟩) hq hnq
  have hrow := RowsOf.snoc (w := w.alloc (.cells #[.slice a' b.length c'] 22)) (w1 := w5) (x := b) (ad := a') (c := c') (E := E) (L := L.recs) (ownsRow_upd (S := fun _ => False) h1 (below_upd _ A4) (fun _ _ h => h)) (fun i hi => by
    obtain ⟨ad, c, q1, q2, q3⟩ := h2 i hi
    exact ⟨ad, c, q1, q2.below A4, q3⟩) hr5 hg5 (hx.below A4) hc hcm hnil (fun y hy e => (hfree y hy).2 (m9 _ e).1) (fun g hg e => (m9 g e).2.2 hg)
  obtain ⟨cur, hcur, hcs⟩ := h.blk
  have hblk : w5.heap[q]? = some (.cells cur 65 (0, 0)) := (u1.block q hq hnq).trans hcur
  have hc4 : ∃ u, w5.cell? ⟨q, 4, none⟩ = some u := by
    obtain ⟨a0, c0, h0⟩ := h.records
    exact ⟨_, (e1 4).trans h0⟩
  obtain ⟨u4, hc4⟩ := hc4
  refine ⟨fun k => T k ∨ (∃ y, a' = some y ∧ y.block = k) ∨ (w.heap.size ≤ k ∧ k < w5.heap.size), ⟨.inl h.own, fun k hk => ?_, ⟨_, setCell_heap_at hblk, by simp [hcs]⟩, by rw [cell_other (by omega), e1]; exact h.c0, by rw [cell_other (by omega), e1]; exact h.c1, by rw [cell_other (by omega), e1]; exact h.c2, by rw [cell_other (by omega), e1]; exact h.c5,
    ⟨a, c, .slice a5 (L.recs.length + 1) c5, (fun g => E g ∨ ∃ y, a' = some y ∧ y.block = g), by rw [cell_other (by omega), e1]; exact m1, (m2.upd u1 (fun _ x hx => (m6 x hx).2.2)).upd u2 (fun _ x hx => (m6 x hx).2.1), m3, m4, m5, fun x hx => ⟨.inl (m6 x hx).1, (m6 x hx).2.1, fun e => ?_⟩, cell_same hc4,
      hrow.upd u2 (fun g hg e => ?_) (fun g hg e => ?_), fun g hg => ?_, fun g hg => ?_⟩, h.f2, h.g32, h.i60, fun x hx => ?_⟩, (u1.mono (fun k _ e => (m9 k e).1)).trans u2 (fun k _ e => by rw [e]; exact h.own), fun k hk => hk.imp id (fun x => x.imp id And.left)⟩
  · rw [setCell_size]
    rcases hk with hk | ⟨y, hy, rfl⟩ | hk
    · have := h.lt k hk; omega
    · have := (hfree y hy).1; omega
    · exact hk.2
  · rcases hn5 _ e with e | e
    · exact (m6 x hx).2.2 e
    · have := h.lt _ (m6 x hx).1; omega
  · subst e
    rcases hn5 _ hg with e | e
    · exact hnq e
    · omega
  · subst e
    rcases hg with hg | ⟨y, hy, hg⟩
    · exact (m10 _ hg).2 rfl
    · exact (hfree y hy).2 (by rw [hg]; exact h.own)
  · rcases hn5 _ hg with e | e
    · obtain ⟨k1, k2, k3⟩ := m9 g e
      refine ⟨.inl k1, k2, fun hE => ?_⟩
      rcases hE with hE | ⟨y, hy, hE⟩
      · exact k3 hE
      · exact (hfree y hy).2 (by rw [hE]; exact k1)
    · have hlt := own_lt hr5 hg
      refine ⟨.inr (.inr ⟨by omega, hlt⟩), by omega, fun hE => ?_⟩
      rcases hE with hE | ⟨y, hy, hE⟩
      · have := h.lt _ (m10 _ hE).1; omega
      · have := (hfree y hy).1; omega
  · rcases hg with hg | ⟨y, hy, rfl⟩
    · exact ⟨.inl (m10 g hg).1, (m10 g hg).2⟩
    · exact ⟨.inr (.inl ⟨y, hy, rfl⟩), fun e => (hfree y hy).2 (by rw [e]; exact h.own)⟩
  · rcases List.mem_append.1 hx with hx | hx
    · exact h.r60 x hx
    · rw [List.mem_singleton.1 hx]; exact hb
end Go.Proofs.YteipcbpkgpffjaaDoor
