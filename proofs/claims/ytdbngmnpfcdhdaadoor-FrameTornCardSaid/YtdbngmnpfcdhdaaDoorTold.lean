/-
  What the statements are told of frames: recouplaw03.told. Conditions: those of each theorem ('HalvesAt': memory holds the table).
-/
import Derived.Test.YtdbngmnpfcdhdaaDoorAll
namespace Go.Proofs.YtdbngmnpfcdhdaaDoor
open Go.RowKit Go.Shelf
set_option maxRecDepth 100000
attribute [local go_sem] Oper.semAt_some

/-- An append of one element of one cell onto a row that the call owns, inside a fence. -/
theorem wpListIn_append_elem {F : Fence} {n : Nat} {P : Program} {w : World} {ops : Array Oper} {rest : List Oper} {o : Oper} {act : Act} {Q : Exit → Act → World → Prop} (hgd : o.guard = none) (s x : Operand) (t : TypeId)
    (ho : o.op = .call { callee := .builtin .append, args := #[s, x], argTypes := #[t, t] })
    (base : Nat) (e : TypeId) (z : Value) (bytes : Nat) (ht : P.underlying t = some (.slice e)) (hi : (P.info? e).map (fun i => (i.zero, i.size, i.bytes)) = some (some z, 1, bytes)) (hz : z.cells.size = 1)
    (v : Value) (m : Nat) (xs : List Value) (hs : act.eval s = v) (hown : w.ownsRow base e 1 v m xs) (u : Value) (hu : u.oneCell' = true) (ad : Addr) (c : Nat) (hx : act.eval x = .slice (some ad) 1 c) (hc : w.cell? ad = some u)
    (k : Nat) (hk : m + 1 = k) (h63 : k ≤ maxLen) (hbytes : k * bytes ≤ 140737488355328) (hbase : base ≤ w.heap.size)
    (h : ∀ a' c' w', w'.ownsRow base e 1 (.slice a' k c') k (xs ++ [u]) → w.grownBy w' v.ownBlock → (∀ g, (Value.slice a' k c').ownBlock = some g → v.ownBlock = some g ∨ g = w.heap.size) → wpListIn F n P ops Q rest (act.put o.dst (.slice a' k c')) w') :
    wpListIn F n P ops Q (o :: rest) act w := by
  subst hk
  obtain ⟨i, hi0, hz0, hsize, hby⟩ := info_parts hi
  refine wpListIn_plain hgd fun K hK => ?_
  obtain ⟨a', c', w', hr, h2, h3, h4⟩ := run_append_full (P := P) w base t o.type e i z 1 bytes ht hi0 hz0 hsize hby hz (by decide) v m xs hown ad 1 c [u] rfl (fun j y hj => by
    match j, hj with
    | 0, hj =>
      injection hj with hj
      subst hj
      rw [show ad.add 0 = ad from by unfold Addr.add; split <;> simp_all]
      exact hc
    | j + 1, hj => simp at hj) (fun y hy => by rw [List.mem_singleton.1 hy]; exact hu) h63 hbytes hbase
  unfold Oper.wpIn
  refine ⟨?_, ?_⟩
  · simp [Oper.about, ho, resolve, Target.leads, Sem.run_pure]
  · rw [Oper.semAt_plain F _ _ (by rw [ho]; intro c hc; cases hc)]
    unfold execOp
    simp only [ho, resolve, invoke, builtin, Sem.run_bind, Sem.run_pure, Result.andThen_ok, List.map_toArray, List.map_cons, List.map_nil, hs, hx, hr]
    exact hK _ _ (h a' c' w' h2 h3 h4)

/-- The two lists that are made, each in its box: of what has come, the bytes, and the places. -/
structure Rows2 (W : World) (M so sa : Nat) (L1 L2 : List (List UInt8)) (v u : Value) (E : Nat → Prop) : Prop where
  hso : so < M
  hsa : sa < M
  hne : so ≠ sa
  bo : Boxed W so 32 v
  ba : Boxed W sa 33 u
  rv : RowsOf W M v E L1
  ru : W.ownsRow M 3 1 u L2.length ((places 0 L2).map ival)
  eE : ∀ g, E g → M ≤ g ∧ g < W.heap.size ∧ v.ownBlock ≠ some g ∧ u.ownBlock ≠ some g
  vu : ∀ g, v.ownBlock = some g → u.ownBlock ≠ some g
theorem Rows2.upd {S : Nat → Prop} {W W' : World} {M so sa : Nat} {L1 L2 : List (List UInt8)} {v u : Value} {E : Nat → Prop} (h : Rows2 W M so sa L1 L2 v u E) (hu : Upd S W W') (h1 : ¬ S so) (h2 : ¬ S sa)
    (hv : ∀ g, v.ownBlock = some g → ¬ S g) (hw : ∀ g, u.ownBlock = some g → ¬ S g) (hE : ∀ g, E g → ¬ S g) : Rows2 W' M so sa L1 L2 v u E :=
  ⟨h.hso, h.hsa, h.hne, heap_upd h.bo hu h1, heap_upd h.ba hu h2, h.rv.upd hu hv hE, ownsRow_upd h.ru hu hw, fun g hg => ⟨(h.eE g hg).1, Nat.lt_of_lt_of_le (h.eE g hg).2.1 hu.size, (h.eE g hg).2.2⟩, h.vu⟩
theorem Rows2.ownV {W : World} {M so sa : Nat} {L1 L2 : List (List UInt8)} {v u : Value} {E : Nat → Prop} (h : Rows2 W M so sa L1 L2 v u E) : ∀ g, v.ownBlock = some g → M ≤ g ∧ g < W.heap.size := fun g hg => by
  obtain ⟨vals, hr, _⟩ := h.rv
  exact ⟨own_ge hr hg, own_lt hr hg⟩
theorem Rows2.ownU {W : World} {M so sa : Nat} {L1 L2 : List (List UInt8)} {v u : Value} {E : Nat → Prop} (h : Rows2 W M so sa L1 L2 v u E) : ∀ g, u.ownBlock = some g → M ≤ g ∧ g < W.heap.size := fun _ hg => ⟨own_ge h.ru hg, own_lt h.ru hg⟩

/-- One more of the bytes. -/
theorem push_out {V w1 : World} {M so sa k mx : Nat} {L : List (List UInt8)} {x : List UInt8} {v u : Value} {E : Nat → Prop} {vals : List Value} {T : Obj} {a' ad : Option Addr} {c' c : Nat} (R : Rows2 V M so sa L L v u E)
    (h1 : V.ownsRow M 22 1 v L.length vals)
    (h2 : ∀ i (h : i < L.length), ∃ ad c, vals[i]? = some (.slice ad L[i].length c) ∧ IsBytes V ad L[i] ∧ L[i].length ≤ c ∧ c ≤ maxLen ∧ (ad = none → c = 0) ∧ ∀ x, ad = some x → E x.block)
    (hr : w1.ownsRow M 22 1 (.slice a' k c') k (vals ++ [.slice ad mx c])) (hk : L.length + 1 = k) (hxl : x.length = mx)
    (hg : (V.alloc T).grownBy w1 v.ownBlock) (hl : ∀ g, (Value.slice a' k c').ownBlock = some g → v.ownBlock = some g ∨ g = (V.alloc T).heap.size)
    (hx : IsBytes V ad x) (hc : mx ≤ c) (hm : c ≤ maxLen) (hn : ad = none → c = 0) (hb : ∀ y, ad = some y → M ≤ y.block ∧ y.block < V.heap.size ∧ v.ownBlock ≠ some y.block ∧ u.ownBlock ≠ some y.block) :
    Boxed w1 so 32 v ∧ Boxed w1 sa 33 u ∧ ∃ W2 E', Hid (w1.setCell ⟨so, 0, none⟩ (.slice a' k c') = W2) ∧ Rows2 W2 M so sa (L ++ [x]) L (.slice a' k c') u E' ∧ Upd (fun g => g = so ∨ v.ownBlock = some g) V W2 ∧ (∀ g, E' g → E g ∨ ∃ y, ad = some y ∧ y.block = g) ∧
      (∀ g, (Value.slice a' k c').ownBlock = some g → v.ownBlock = some g ∨ V.heap.size ≤ g) := by
  subst hk
  subst hxl
  have ov := R.ownV
  have ou := R.ownU
  have b0 : Below V.heap.size V (V.alloc T) := upd_box _
  have hz : (V.alloc T).heap.size = V.heap.size + 1 := by simp
  have u1 : Upd (fun g => v.ownBlock = some g) V w1 := (below_upd _ b0).trans ((Upd.refl _ _).grown hg (fun j hj => .inl hj)) (fun _ _ h => h)
  have g1 : Boxed w1 so _ v := heap_upd R.bo u1 (fun h => by have := ov _ h; have := R.hso; omega)
  have g2 : Boxed w1 sa _ u := heap_upd R.ba u1 (fun h => by have := ov _ h; have := R.hsa; omega)
  have h1' := ownsRow_upd (S := fun _ => False) h1 (below_upd _ b0) (fun _ _ h => h)
  have rv := RowsOf.snoc (w := V.alloc T) (w1 := w1) (x := x) (ad := ad) (c := c) h1' (fun i h => by
    obtain ⟨ad, c, q1, q2, q3⟩ := h2 i h
    exact ⟨ad, c, q1, q2.below b0, q3⟩) hr hg (hx.below b0) hc hm hn (fun y hy => (hb y hy).2.2.1) (fun g hg => (R.eE g hg).2.2.1)
  have ru := ownsRow_upd R.ru u1 (fun g hg h => R.vu g h hg)
  have u2 : Upd (fun g => g = so) w1 (w1.setCell ⟨so, 0, none⟩ (.slice a' (L.length + 1) c')) := upd_set _ _
  have hnew : ∀ g, (Value.slice a' (L.length + 1) c').ownBlock = some g → M ≤ g := fun g hg => own_ge hr hg
  have hso := R.hso
  refine ⟨g1, g2, _, _, Lib.hid rfl, ⟨R.hso, R.hsa, R.hne, g1.set _, heap_upd g2 u2 (fun h => R.hne h.symm), rv.upd u2 (fun g hg h => by have := hnew g hg; omega) (fun g hg h => ?_), ownsRow_upd ru u2 (fun g hg h => by have := ou g hg; omega), fun g hg => ?_, fun g hg h => ?_⟩,
    (u1.sub (fun _ h => .inr h)).on (u2.sub (fun _ h => .inl h)), fun _ hg => hg, fun g hg => (hl g hg).imp id (fun h => by omega)⟩
  · rcases hg with hg | ⟨y, hy, rfl⟩
    · have := (R.eE g hg).1; omega
    · have := (hb y hy).1; omega
  · have hs1 := u1.size
    have hs2 := u2.size
    rcases hg with hg | ⟨y, hy, rfl⟩
    · obtain ⟨q1, q2, q3, q4⟩ := R.eE g hg
      exact ⟨q1, by omega, fun e => (hl g e).elim q3 (fun h => by omega), q4⟩
    · obtain ⟨q1, q2, q3, q4⟩ := hb y hy
      exact ⟨q1, by omega, fun e => (hl _ e).elim q3 (fun h => by omega), q4⟩
  · rcases hl g hg with e | e
    · exact R.vu g e h
    · have := ou g h; omega

/-- One more of the places. -/
theorem push_at {V w1 : World} {M so sa k q : Nat} {L : List (List UInt8)} {x : List UInt8} {v u : Value} {E : Nat → Prop} {T : Obj} {a' : Option Addr} {c' : Nat} (R : Rows2 V M so sa (L ++ [x]) L v u E) (hq : endOf 0 (L ++ [x]) = q)
    (hr : w1.ownsRow M 3 1 (.slice a' k c') k ((places 0 L).map ival ++ [.int .i64 (q : Int)])) (hk : L.length + 1 = k)
    (hg : (V.alloc T).grownBy w1 u.ownBlock) (hl : ∀ g, (Value.slice a' k c').ownBlock = some g → u.ownBlock = some g ∨ g = (V.alloc T).heap.size) :
    Boxed w1 sa 33 u ∧ ∃ W2, Hid (w1.setCell ⟨sa, 0, none⟩ (.slice a' k c') = W2) ∧ Rows2 W2 M so sa (L ++ [x]) (L ++ [x]) v (.slice a' k c') E ∧ Upd (fun g => g = sa ∨ u.ownBlock = some g) V W2 ∧
      (∀ g, (Value.slice a' k c').ownBlock = some g → u.ownBlock = some g ∨ V.heap.size ≤ g) := by
  subst hk
  have ov := R.ownV
  have ou := R.ownU
  have b0 : Below V.heap.size V (V.alloc T) := upd_box _
  have hz : (V.alloc T).heap.size = V.heap.size + 1 := by simp
  have u1 : Upd (fun g => u.ownBlock = some g) V w1 := (below_upd _ b0).trans ((Upd.refl _ _).grown hg (fun j hj => .inl hj)) (fun _ _ h => h)
  have g1 : Boxed w1 so _ v := heap_upd R.bo u1 (fun h => by have := ou _ h; have := R.hso; omega)
  have g2 : Boxed w1 sa _ u := heap_upd R.ba u1 (fun h => by have := ou _ h; have := R.hsa; omega)
  have rv := R.rv.upd u1 (fun g hg h => R.vu g hg h) (fun g hg h => (R.eE g hg).2.2.2 h)
  have u2 : Upd (fun g => g = sa) w1 (w1.setCell ⟨sa, 0, none⟩ (.slice a' (L.length + 1) c')) := upd_set _ _
  have hnew : ∀ g, (Value.slice a' (L.length + 1) c').ownBlock = some g → M ≤ g := fun g hg => own_ge hr hg
  have hsa := R.hsa
  have hru : w1.ownsRow M 3 1 (.slice a' (L.length + 1) c') (L ++ [x]).length ((places 0 (L ++ [x])).map ival) := by
    rw [places_snoc, List.map_append, List.length_append, List.map_cons, List.map_nil, ← endOf_snoc, hq]
    exact hr
  refine ⟨g2, _, Lib.hid rfl, ⟨R.hso, R.hsa, R.hne, heap_upd g1 u2 R.hne, g2.set _, rv.upd u2 (fun g hg h => by have := ov g hg; omega) (fun g hg h => by have := (R.eE g hg).1; omega), ownsRow_upd hru u2 (fun g hg h => by have := hnew g hg; omega), fun g hg => ?_, fun g hg h => ?_⟩,
    (u1.sub (fun _ h => .inr h)).on (u2.sub (fun _ h => .inl h)), fun g hg => (hl g hg).imp id (fun h => by omega)⟩
  · have hs1 := u1.size
    have hs2 := u2.size
    obtain ⟨q1, q2, q3, q4⟩ := R.eE g hg
    exact ⟨q1, by omega, q3, fun e => (hl g e).elim q4 (fun h => by omega)⟩
  · rcases hl g h with e | e
    · exact R.vu g hg e
    · have := ov g hg; omega

/-- Between two rounds of told. -/
structure ToldIn (L : List (List UInt8)) (most s D l M : Nat) (r : Loop) (i : Nat) (S : Nat → Prop) (W : World) : Prop where
  lt : ∀ k, S k → s ≤ k ∧ k < W.heap.size
  s0 : S s
  s1 : S (s + 1)
  s2 : S (s + 2)
  sD : S D
  sl : S l
  bm : Boxed W s 3 (.int .i64 (most : Int))
  hD : W.heap[D]? = some (.deferred (some []))
  hl : W.heap[l]? = some (.loop r)
  le : i ≤ L.length
  lm : i ≤ most
  hM : s + 2 < D ∧ D < l ∧ l < M
  mem : ∃ v u E, Rows2 W M (s + 1) (s + 2) (L.take i) (L.take i) v u E ∧ (∀ g, E g → S g) ∧ (∀ g, v.ownBlock = some g → S g) ∧ (∀ g, u.ownBlock = some g → S g)
theorem ToldIn.caller (L : List (List UInt8)) (most s D l M : Nat) (r : Loop) : Caller (ToldIn L most s D l M r) := by
  constructor
  · intro i S W h k hk
    exact (h.lt k hk).2
  · intro i S W W' h hu
    obtain ⟨v, u, E, h1, h2, h3, h4⟩ := h.mem
    exact ⟨fun k hk => ⟨(h.lt k hk).1, Nat.lt_of_lt_of_le (h.lt k hk).2 hu.size⟩, h.s0, h.s1, h.s2, h.sD, h.sl, heap_upd h.bm hu (fun x => x h.s0), heap_upd h.hD hu (fun x => x h.sD), heap_upd h.hl hu (fun x => x h.sl), h.le, h.lm, h.hM,
      ⟨v, u, E, h1.upd hu (fun x => x h.s1) (fun x => x h.s2) (fun g hg x => x (h3 g hg)) (fun g hg x => x (h4 g hg)) (fun g hg x => x (h2 g hg)), h2, h3, h4⟩⟩
/-- Where there are enough. -/
def ToldEnd (L : List (List UInt8)) (most s D l M : Nat) (r : Loop) (i : Nat) (S : Nat → Prop) (W : World) : Prop := ToldIn L most s D l M (halted r (.exit 0)) i S W ∧ i = most
theorem ToldEnd.caller (L : List (List UInt8)) (most s D l M : Nat) (r : Loop) : Caller (ToldEnd L most s D l M r) :=
  ⟨fun h => (ToldIn.caller L most s D l M _).lt h.1, fun h hu => ⟨(ToldIn.caller L most s D l M _).keep h.1 hu, h.2⟩⟩

/-- The frames are no more than the bytes. -/
theorem come_end {xs : List UInt8} : ∀ i, i ≤ (frames xs).length → ∃ k, Come xs i k := by
  intro i
  induction i with
  | zero => exact fun _ => ⟨0, Come.zero xs⟩
  | succ i ih =>
    intro h
    obtain ⟨k, hk⟩ := ih (by omega)
    cases hf : frameAt (xs.drop k) with
    | none => have := hk.stop hf; omega
    | some x =>
      obtain ⟨_, _, h2⟩ := hk.step hf
      exact ⟨_, h2⟩
theorem frames_count (xs : List UInt8) : 7 * (frames xs).length ≤ xs.length := by
  obtain ⟨k, hk⟩ := come_end (xs := xs) (frames xs).length (Nat.le_refl _)
  have h1 := hk.at'
  rw [List.take_length] at h1
  have h2 := endOf_ge 0 (frames xs)
  have h3 := hk.in'
  omega

/-- What told answers. -/
def ToldOut (w : World) (L : List (List UInt8)) (e : Ending) (w' : World) : Prop :=
  ∃ v u E, e = .returned (.tuple #[v, u]) ∧ RowsOf w' w.heap.size v E L ∧ w'.ownsRow w.heap.size 3 1 u L.length ((places 0 L).map ival)

/-- A round of told begins: what lies in its boxes. -/
theorem ToldIn.busy {L : List (List UInt8)} {most s D l M : Nat} {r : Loop} {i : Nat} {S : Nat → Prop} {W V : World} (h : ToldIn L most s D l M r i S W) (u1 : Upd (fun k => k = l) W V) :
    (L.take i).length = i ∧ Boxed V s 3 (.int .i64 (most : Int)) ∧ ∃ av cv au cu E vals, Rows2 V M (s + 1) (s + 2) (L.take i) (L.take i) (.slice av i cv) (.slice au i cu) E ∧ V.ownsRow M 22 1 (.slice av i cv) (L.take i).length vals ∧
      (∀ j (h : j < (L.take i).length), ∃ ad c, vals[j]? = some (.slice ad (L.take i)[j].length c) ∧ IsBytes V ad (L.take i)[j] ∧ (L.take i)[j].length ≤ c ∧ c ≤ maxLen ∧ (ad = none → c = 0) ∧ ∀ x, ad = some x → E x.block) ∧
      (∀ g, E g → S g) ∧ (∀ g, (Value.slice av i cv).ownBlock = some g → S g) ∧ (∀ g, (Value.slice au i cu).ownBlock = some g → S g) := by
  have hti : (L.take i).length = i := by rw [List.length_take]; have := h.le; omega
  obtain ⟨v, u, E, R, e1, e2, e3⟩ := h.mem
  have hM := h.hM
  have R1 := R.upd u1 (by omega) (by omega) (fun g hg x => by have := (R.ownV g hg).1; omega) (fun g hg x => by have := (R.ownU g hg).1; omega) (fun g hg x => by have := (R.eE g hg).1; omega)
  obtain ⟨av, cv, rfl⟩ := R1.rv.slice
  obtain ⟨au, cu, rfl⟩ := own_slice R1.ru
  rw [hti] at R1 e2 e3
  obtain ⟨vals, h1, h2⟩ := R1.rv
  exact ⟨hti, heap_upd h.bm u1 (by omega), av, cv, au, cu, E, vals, R1, h1, h2, e1, e2, e3⟩

/-- What lies behind the first of the two stores. -/
theorem at_facts {w5 W2 : World} {p : Addr} {X : Value} {M so sa i cu : Nat} {au : Option Addr} {L1 L2 : List (List UInt8)} {v : Value} {E : Nat → Prop} (hW2 : Hid (w5.setCell p X = W2)) (R2 : Rows2 W2 M so sa L1 L2 v (.slice au i cu) E) (hti : L2.length = i) (q : Nat) (hM : M ≤ W2.heap.size) :
    Hid (((w5.setCell p X).alloc (.cells #[.int .i64 (q : Int)] 3)).ownsRow M 3 1 (.slice au i cu) i ((places 0 L2).map ival)) ∧ ((w5.setCell p X).alloc (.cells #[.int .i64 (q : Int)] 3)).cell? ⟨w5.heap.size, 0, none⟩ = some (.int .i64 (q : Int)) ∧ M ≤ ((w5.setCell p X).alloc (.cells #[.int .i64 (q : Int)] 3)).heap.size := by
  have hz : w5.heap.size = W2.heap.size := by rw [← hW2.out, setCell_size]
  rw [hW2.out, hz]
  refine ⟨?_, by simp, by simp; omega⟩
  show (W2.alloc (.cells #[.int .i64 (q : Int)] 3)).ownsRow M 3 1 (.slice au i cu) i ((places 0 L2).map ival)
  have h := ownsRow_upd (S := fun _ => False) R2.ru (below_upd _ (upd_box (.cells #[.int .i64 (q : Int)] 3))) (fun _ _ h => h)
  rw [hti] at h
  exact h
theorem push_at2 {w5 W2 w6 : World} {p : Addr} {X : Value} {M so sa k q : Nat} {L : List (List UInt8)} {x : List UInt8} {v u : Value} {E : Nat → Prop} {T : Obj} {a' : Option Addr} {c' : Nat} (hW2 : Hid (w5.setCell p X = W2)) (R : Rows2 W2 M so sa (L ++ [x]) L v u E) (hq : endOf 0 (L ++ [x]) = q)
    (hr : w6.ownsRow M 3 1 (.slice a' k c') k ((places 0 L).map ival ++ [.int .i64 (q : Int)])) (hk : L.length + 1 = k)
    (hg : ((w5.setCell p X).alloc T).grownBy w6 u.ownBlock) (hl : ∀ g, (Value.slice a' k c').ownBlock = some g → u.ownBlock = some g ∨ g = ((w5.setCell p X).alloc T).heap.size) :
    Boxed w6 sa 33 u ∧ ∃ W3, Hid (w6.setCell ⟨sa, 0, none⟩ (.slice a' k c') = W3) ∧ Rows2 W3 M so sa (L ++ [x]) (L ++ [x]) v (.slice a' k c') E ∧ Upd (fun g => g = sa ∨ u.ownBlock = some g) W2 W3 ∧
      (∀ g, (Value.slice a' k c').ownBlock = some g → u.ownBlock = some g ∨ W2.heap.size ≤ g) := by
  rw [hW2.out] at hg hl
  exact push_at R hq hr hk hg hl

/-- Behind a round of told. -/
theorem told_next {L : List (List UInt8)} {most s D l M : Nat} {r : Loop} {i : Nat} {S : Nat → Prop} {W1 W V W2 W3 w' : World} {ad : Option Addr} {v u v3 u3 : Value} {E E2 : Nat → Prop} (h : ToldIn L most s D l M r i S W1) (hb : Below W1.heap.size W1 W) (u1 : Upd (fun k => k = l) W V)
    (hi : i < L.length) (hlt : i < most) (hvo : ∀ g, v.ownBlock = some g → M ≤ g ∧ g < V.heap.size) (huo : ∀ g, u.ownBlock = some g → M ≤ g ∧ g < V.heap.size) (hE : ∀ g, E g → S g) (hvS : ∀ g, v.ownBlock = some g → S g) (huS : ∀ g, u.ownBlock = some g → S g)
    (U2 : Upd (fun g => g = s + 1 ∨ v.ownBlock = some g) V W2) (hE2 : ∀ g, E2 g → E g ∨ ∃ y, ad = some y ∧ y.block = g) (hn2 : ∀ g, v3.ownBlock = some g → v.ownBlock = some g ∨ V.heap.size ≤ g)
    (R3 : Rows2 W3 M (s + 1) (s + 2) (L.take i ++ [L[i]]) (L.take i ++ [L[i]]) v3 u3 E2) (U3 : Upd (fun g => g = s + 2 ∨ u.ownBlock = some g) W2 W3) (hn3 : ∀ g, u3.ownBlock = some g → u.ownBlock = some g ∨ W2.heap.size ≤ g)
    (hfr : ∀ x, ad = some x → W1.heap.size ≤ x.block) (u' : Upd (fun k => k = l) W3 w') (hl' : w'.heap[l]? = some (.loop r)) :
    ToldIn L most s D l M r (i + 1) (More S W1 w') w' ∧ Grows S W1 (More S W1 w') w' := by
  have z1 := hb.size
  have z2 := u1.size
  have z3 := U2.size
  have z4 := U3.size
  have z5 := u'.size
  have hM := h.hM
  have hs0 := (h.lt _ h.s0).2
  rw [← List.take_succ_eq_append_getElem hi] at R3
  have keep : ∀ k, k < M → k ≠ s + 1 → k ≠ s + 2 → k ≠ l → ∀ o, W1.heap[k]? = some o → w'.heap[k]? = some o := fun k hk h1 h2 h3 o ho =>
    heap_upd (heap_upd (heap_upd (heap_upd (heap_below ho hb) u1 h3) U2 (fun x => by rcases x with x | x; omega; have := hvo _ x; omega)) U3 (fun x => by rcases x with x | x; omega; have := huo _ x; omega)) u' h3
  refine ⟨⟨fun k hk => ?_, .inl h.s0, .inl h.s1, .inl h.s2, .inl h.sD, .inl h.sl, keep _ (by omega) (by omega) (by omega) (by omega) _ h.bm, keep _ (by omega) (by omega) (by omega) (by omega) _ h.hD, hl', hi, hlt, hM, v3, u3, E2, ?_, fun g hg => ?_, fun g hg => ?_, fun g hg => ?_⟩, ?_, fun k hk => hk.imp id (fun x => x.1)⟩
  · rcases hk with hk | hk
    · have := h.lt k hk; omega
    · have := h.lt _ h.s0; omega
  · exact R3.upd u' (by omega) (by omega) (fun g hg x => by have := (R3.ownV g hg).1; omega) (fun g hg x => by have := (R3.ownU g hg).1; omega) (fun g hg x => by have := (R3.eE g hg).1; omega)
  · have h3 := (R3.eE g hg).2.1
    rcases hE2 g hg with x | ⟨y, hy, rfl⟩
    · exact .inl (hE g x)
    · exact .inr ⟨hfr y hy, by omega⟩
  · have h3 := (R3.ownV g hg).2
    rcases hn2 g hg with x | x
    · exact .inl (hvS g x)
    · exact .inr ⟨by omega, by omega⟩
  · have h3 := (R3.ownU g hg).2
    rcases hn3 g hg with x | x
    · exact .inl (huS g x)
    · exact .inr ⟨by omega, by omega⟩
  · refine (below_upd S hb).on ((u1.sub (fun k x => ?_)).on ((U2.sub (fun k x => ?_)).on ((U3.sub (fun k x => ?_)).on (u'.sub (fun k x => ?_)))))
    · rw [x]; exact h.sl
    · rcases x with x | x
      · rw [x]; exact h.s1
      · exact hvS k x
    · rcases x with x | x
      · rw [x]; exact h.s2
      · exact huS k x
    · rw [x]; exact h.sl

theorem ToldIn.reset {L : List (List UInt8)} {most s D l M : Nat} {r r' : Loop} {i : Nat} {S : Nat → Prop} {W W' : World} (h : ToldIn L most s D l M r i S W) (u1 : Upd (fun k => k = l) W W') (hl : W'.heap[l]? = some (.loop r')) : ToldIn L most s D l M r' i S W' := by
  obtain ⟨v, u, E, R, e1, e2, e3⟩ := h.mem
  have hM := h.hM
  exact ⟨fun k hk => ⟨(h.lt k hk).1, Nat.lt_of_lt_of_le (h.lt k hk).2 u1.size⟩, h.s0, h.s1, h.s2, h.sD, h.sl, heap_upd h.bm u1 (by omega), heap_upd h.hD u1 (by omega), hl, h.le, h.lm, hM, v, u, E,
    R.upd u1 (by omega) (by omega) (fun g hg x => by have := (R.ownV g hg).1; omega) (fun g hg x => by have := (R.ownU g hg).1; omega) (fun g hg x => by have := (R.eE g hg).1; omega), e1, e2, e3⟩

theorem RowsOf.lower {w : World} {base base' : Nat} {v : Value} {E : Nat → Prop} {L : List (List UInt8)} (h : RowsOf w base v E L) (hb : base' ≤ base) : RowsOf w base' v E L := by
  obtain ⟨vals, h1, h2⟩ := h
  exact ⟨vals, row_mono h1 hb, h2⟩
/-- At told's end. -/
theorem told_fin {L L' : List (List UInt8)} {most D i : Nat} {r : Loop} {S S' : Nat → Prop} {w w2 w3 w4 : World} (hj : ToldIn L most w.heap.size D (D + 1) (D + 2) r i S' w3) (hg : Grows S w2 S' w3) (u4 : Upd (fun k => k = D + 1) w3 w4) (B2 : Below w.heap.size w w2)
    (hS : ∀ k, S k → w.heap.size ≤ k) (hL : L.take i = L') :
    ∃ v u E, Boxed w4 (w.heap.size + 1) 32 v ∧ Boxed w4 (w.heap.size + 2) 33 u ∧ w4.drew.heap[D]? = some (.deferred (some [])) ∧
      RowsOf (w4.drew.putObj D (.deferred none)) w.heap.size v E L' ∧ (w4.drew.putObj D (.deferred none)).ownsRow w.heap.size 3 1 u L'.length ((places 0 L').map ival) ∧ Below w.heap.size w (w4.drew.putObj D (.deferred none)) := by
  subst hL
  obtain ⟨v, u, E, R, e1, e2, e3⟩ := hj.mem
  have hM := hj.hM
  have u5 : Upd (fun k => k = D + 1 ∨ k = D) w3 (w4.drew.putObj D (.deferred none)) := ((u4.sub (fun _ h => .inl h)).on ((Upd.refl _ w4).drew)).on (upd_put _ (.inr rfl))
  have R5 := R.upd u5 (by omega) (by omega) (fun g hg x => by have := (R.ownV g hg).1; omega) (fun g hg x => by have := (R.ownU g hg).1; omega) (fun g hg x => by have := (R.eE g hg).1; omega)
  have h3 : Below w.heap.size w w3 := B2.trans (hg.upd.toBelow B2.size (fun k hk h => by have := hS k h; omega))
  exact ⟨v, u, E, heap_upd R.bo u4 (by omega), heap_upd R.ba u4 (by omega), heap_upd (heap_upd hj.hD u4 (by omega)) (S := fun _ => False) ((Upd.refl _ w4).drew) id, R5.rv.lower (by omega), row_mono R5.ru (by omega), h3.trans (u5.toBelow h3.size (by omega))⟩

set_option maxHeartbeats 8000000 in
theorem told_walk (n : Nat) (a : Option Addr) (xs : List UInt8) (m c most : Nat) (w : World) (hH : HalvesAt w) (hn : xs.length = m) (hx : IsBytes w a xs) (hnc : a = none → c = 0) (hml : m ≤ 2000000) (hmo : most ≤ 9223372036854775807) :
    CallsIn Fence.wide n Tryd.prog 13 #[.slice a m c, .int .i64 (most : Int)] w fun e w' => ToldOut w ((frames xs).take most) e w' ∧ Below w.heap.size w w' := by
  refine callsIn_of_wp_marks Tryd.func13 rfl trivial ?_ rfl
  simp only [Tryd.ntmps13, List.size_toArray, List.length_cons, List.length_nil, Nat.reduceAdd, Nat.reduceSub, Array.replicate_succ, Array.replicate_zero, List.push_toArray, List.append_toArray, List.nil_append, List.cons_append]
  obtain ⟨w0, hw0⟩ : ∃ w0, ((w.alloc (.cells #[.int .i64 (most : Int)] 3)).alloc (.cells #[.slice none 0 0] 32)).alloc (.cells #[.slice none 0 0] 33) = w0 := ⟨_, rfl⟩
  have A0 : Below w.heap.size w w0 := by rw [← hw0]; exact (((Below.refl _ w).alloc (by simp) _).alloc (by simp) _).alloc (by simp; omega) _
  have hz0 : w0.heap.size = w.heap.size + 3 := by rw [← hw0]; simp
  have hb0 : Boxed w0 w.heap.size 3 (.int .i64 (most : Int)) ∧ Boxed w0 (w.heap.size + 1) 32 (.slice none 0 0) ∧ Boxed w0 (w.heap.size + 2) 33 (.slice none 0 0) := by
    rw [← hw0]
    refine ⟨((Boxed.new w _ _).alloc _).alloc _, ?_, ?_⟩
    · have h := Boxed.new (w.alloc (.cells #[.int .i64 (most : Int)] 3)) 32 (.slice none 0 0)
      rw [World.size_alloc] at h
      exact h.alloc _
    · have h := Boxed.new ((w.alloc (.cells #[.int .i64 (most : Int)] 3)).alloc (.cells #[.slice none 0 0] 32)) 33 (.slice none 0 0)
      rw [World.size_alloc, World.size_alloc] at h
      exact h
  gi_wp2_with fail
  refine ⟨trivial, fun h => by simp [Fence.wide] at h, ?_⟩
  refine (callsIn_wide.2 (code_all a xs m c w0 hn (hx.below A0) hnc (by omega))).mono ?_
  rintro e w1 ⟨B, aa, cc, rfl, hbox, hBl, hBu, hby, hmc, hcm, hnil, hadr, b1⟩
  gi_wp2_with fail
  clear hw0
  have B1 : Below w.heap.size w w1 := A0.trans (b1.mono A0.size)
  have k0 : Boxed w1 w.heap.size _ _ := heap_below hb0.1 b1
  have k1 : Boxed w1 (w.heap.size + 1) _ _ := heap_below hb0.2.1 b1
  have k2 : Boxed w1 (w.heap.size + 2) _ _ := heap_below hb0.2.2 b1
  have hz1 := b1.size
  obtain ⟨D, hzD⟩ : ∃ D, w1.heap.size = D := ⟨_, rfl⟩
  have hsrc0 : SrcAt w1 (fun k => k = w.heap.size ∨ k = w.heap.size + 1 ∨ k = w.heap.size + 2 ∨ k = D ∨ k = D + 1) B aa xs m cc := by
    have hl := hby.lt
    have hg := hH.lt
    refine ⟨hbox, hBu, by omega, hby, fun h0 x hx h => ?_, hH.below B1, by omega, hn, hmc, hcm, hnil⟩
    have h1 := hadr x hx
    have h2 := hl h0 x hx
    omega
  clear hbox hby hadr hb0 A0 b1
  refine range_of_call (gf := 31) (lb := #[.pointer (some ⟨B, 0, none⟩)]) rfl (enters_of Tryd.func31 (by kernel_rfl) rfl) ?_
  intro r r1 r2 r3 r4 r5 r6
  rw [hzD]
  intro w2 b2 hz2 hD hl
  have B2 : Below w.heap.size w w2 := B1.trans (b2.mono (by omega))
  have b2' : Below w1.heap.size w1 w2 := by rw [hzD]; exact b2
  refine (all_walk (n - 1) (D + 1) B aa xs m cc _ (ToldEnd (frames xs) most w.heap.size D (D + 1) (D + 2) r) (ToldIn.caller (frames xs) most w.heap.size D (D + 1) (D + 2) r) (ToldEnd.caller (frames xs) most w.heap.size D (D + 1) (D + 2) r) ?hY _ w2 (hsrc0.below b2') ?h0).mono ?hQ
  case h0 =>
    refine ⟨fun k h => by omega, .inl rfl, .inr (.inl rfl), .inr (.inr (.inl rfl)), .inr (.inr (.inr (.inl rfl))), .inr (.inr (.inr (.inr rfl))), heap_below k0 b2', hD, hl, Nat.zero_le _, Nat.zero_le _, by omega, .slice none 0 0, .slice none 0 0, fun _ => False, ?_, fun _ h => h.elim, fun g h => by simp [Value.ownBlock] at h, fun g h => by simp [Value.ownBlock] at h⟩
    exact ⟨by omega, by omega, by omega, heap_below k1 b2', heap_below k2 b2', RowsOf.nil _ _ _, World.ownsRow_nil _ _ _ _, fun _ h => h.elim, fun g h => by simp [Value.ownBlock] at h⟩
  case hY =>
    clear hD hl b2' B2 hz2 b2 hsrc0 k0 k1 k2 hz1 B1 hzD
    rintro k i S W1 W ad m' c' hi hj0 hbW hlen hbytes hmc' hcm' hnil' hfr
    have hj := (ToldIn.caller (frames xs) most w.heap.size D (D + 1) (D + 2) r).below hj0 hbW
    refine YieldAt.mono (R := RoundOut (ToldIn (frames xs) most w.heap.size D (D + 1) (D + 2) r) (ToldEnd (frames xs) most w.heap.size D (D + 1) (D + 2) r) i S W1) ?_ (fun _ _ h => h)
    refine yield_of_walk hj.hl r1 r2 (by rw [r4]; rfl) ?_
    intro K hK
    rw [r3, r4, r5]
    have HK := Lib.hid hK
    have R6 := Lib.hid r6
    clear hK r1 r2 r3 r4 r5 r6
    gi_wp2
    refine HK.out _ ?_
    intro V u1 hl1
    rw [R6.out]
    clear HK
    clear R6
    have hin := ToldIn.busy hj u1
    obtain ⟨hti, bm, av, cv, au, cu, E, vals, RV, h1, h2, hE, hvS, huS⟩ := hin
    have cm := bm.cell
    have co := RV.bo.cell
    have ca : V.cell? ⟨w.heap.size + 1 + 1, 0, none⟩ = some (.slice au i cu) := RV.ba.cell
    have HB := Lib.hid hl1
    have HJ := Lib.hid hj
    have HJ0 := Lib.hid hj0
    have HT := Lib.hid hti
    have HR := Lib.hid RV
    have H1 := Lib.hid h1
    have H2 := Lib.hid h2
    have him := hj.lm
    clear hl1 hj hj0 hti RV h1 h2
    have hcount := frames_count xs
    have hLm : i + 1 ≤ maxLen := by have : (2000000 : Nat) ≤ maxLen := by decide
                                    omega
    have hLb : (i + 1) * 24 ≤ 140737488355328 := by omega
    have hLb8 : (i + 1) * 8 ≤ 140737488355328 := by omega
    have hDW : D + 1 < W1.heap.size := heap_lt HJ0.out.hl
    have hWV := u1.size
    have hWW := hbW.size
    have hxV : IsBytes V ad (frames xs)[i] := hbytes.upd u1 (fun _ x hx h => by have := hfr x hx; have := hDW; omega)
    have hbV : Hid (∀ y, ad = some y → D + 2 ≤ y.block ∧ y.block < V.heap.size ∧ (Value.slice av i cv).ownBlock ≠ some y.block ∧ (Value.slice au i cu).ownBlock ≠ some y.block) := by
      intro y hy
      have hy1 := hfr y hy
      exact ⟨by omega, by omega, fun e => by have := (HJ0.out.lt _ (hvS _ e)).2; omega, fun e => by have := (HJ0.out.lt _ (huS _ e)).2; omega⟩
    have h1T := Lib.hid (ownsRow_upd (S := fun _ => False) H1.out (below_upd _ (upd_box (.cells #[.slice ad m' c'] 22))) (fun _ _ h => h))
    rw [HT.out] at h1T
    have xT : (V.alloc (.cells #[.slice ad m' c'] 22)).cell? ⟨V.heap.size, 0, none⟩ = some (.slice ad m' c') := by simp
    have zT : D + 2 ≤ (V.alloc (.cells #[.slice ad m' c'] 22)).heap.size := by simp; omega
    have hk1 : Hid ((List.take i (frames xs)).length + 1 = i + 1) := by show (List.take i (frames xs)).length + 1 = i + 1; rw [HT.out]
    have HLEN := Lib.hid hlen
    have HXV := Lib.hid hxV
    obtain ⟨q, hq0⟩ : ∃ q, endOf 0 ((frames xs).take (i + 1)) = q := ⟨_, rfl⟩
    rw [hq0]
    have HQ0 := Lib.hid hq0
    have hq1 : Hid (endOf 0 (List.take i (frames xs) ++ [(frames xs)[i]]) = q) := by
      show endOf 0 (List.take i (frames xs) ++ [(frames xs)[i]]) = q
      rw [← List.take_succ_eq_append_getElem hi]; exact hq0
    have HE := Lib.hid hE
    have HVS := Lib.hid hvS
    have HUS := Lib.hid huS
    have HFR := Lib.hid hfr
    have HBW := Lib.hid hbW
    have BM := Lib.hid bm
    clear hlen hxV hq0 hE hvS huS hfr hbytes hbW bm hcount
    by_cases hq : i = most
    · have hq' : ((i : Int) == (most : Int)) = true := by simp [hq]
      have HQM := Lib.hid hq
      clear hq
      gi_wp2
      exact ⟨HB.out, fun w' u' hl' => .inr ⟨rfl, S, ⟨ToldIn.reset HJ.out (u1.on u') hl', HQM.out⟩, (below_upd S HBW.out).on ((u1.on u').sub (fun k x => by rw [x]; exact HJ0.out.sl)), fun _ x => .inl x⟩⟩
    · have hq' : ((i : Int) == (most : Int)) = false := by simp; omega
      gi_wp2_with (first
        | (gi_at_builtin; refine wpListIn_append_elem rfl _ _ 32 rfl (D + 2) 22 (.slice none 0 0) 24 Tryd.underlying32 sl_info rfl (.slice av i cv) i vals rfl h1T.out (.slice ad m' c') rfl ⟨V.heap.size, 0, none⟩ 1 rfl xT (i + 1) rfl hLm hLb zT ?_; intro a5 c5 w5 hr5 hg5 hn5; obtain ⟨bo5, ba5, W2, E2, hW2, R2, U2, hE2, hn2⟩ := push_out HR.out H1.out H2.out hr5 hk1.out HLEN.out hg5 hn5 HXV.out hmc' hcm' hnil' hbV.out; have co5 := bo5.cell; have fo5 := bo5.frozen; have cs5 : w5.cell? ⟨w.heap.size + 1 + 1, 0, none⟩ = some (.slice au i cu) := ba5.cell; have fs5 : w5.frozen? ⟨w.heap.size + 1 + 1, 0, none⟩ = false := ba5.frozen; obtain ⟨ruT, xT2, zT2⟩ := at_facts hW2 R2 HT.out q (by have := U2.size; omega); have HR2 := Lib.hid R2; have HU2 := Lib.hid U2; have HE2 := Lib.hid hE2; have HN2 := Lib.hid hn2; clear R2 hr5 hg5 hn5 co cm U2 hE2 hn2)
        | (gi_at_builtin; refine wpListIn_append_elem rfl _ _ 33 rfl (D + 2) 3 (.int .i64 0) 8 Tryd.underlying33 int_info rfl (.slice au i cu) i _ rfl ruT.out (.int .i64 (q : Int)) rfl ⟨w5.heap.size, 0, none⟩ 1 rfl xT2 (i + 1) rfl hLm hLb8 zT2 ?_; intro a6 c6 w6 hr6 hg6 hn6; obtain ⟨ba6, W3, hW3, R3, U3, hn3⟩ := push_at2 hW2 HR2.out hq1.out hr6 hk1.out hg6 hn6; have cs6 : w6.cell? ⟨w.heap.size + 1 + 1, 0, none⟩ = some (.slice au i cu) := ba6.cell; have fs6 : w6.frozen? ⟨w.heap.size + 1 + 1, 0, none⟩ = false := ba6.frozen; have HR3 := Lib.hid R3; have HU3 := Lib.hid U3; have HN3 := Lib.hid hn3; clear R3 hr6 hg6 hn6 U3 hn3))
      have e3 := hW3.out
      rw [show w.heap.size + 2 = w.heap.size + 1 + 1 from rfl] at e3
      rw [e3]
      clear e3
      have hvo := HR.out.ownV
      have huo := HR.out.ownU
      have hM := HJ0.out.hM
      have hB3 : W3.heap[D + 1]? = some (.loop (busy r)) := heap_upd (heap_upd HB.out HU2.out (fun h => by rcases h with h | h; omega; have := hvo _ h; omega)) HU3.out (fun h => by rcases h with h | h; omega; have := huo _ h; omega)
      exact ⟨hB3, fun w' u' hl' => .inl ⟨rfl, _, told_next HJ0.out HBW.out u1 hi (by omega) hvo huo HE.out HVS.out HUS.out HU2.out HE2.out HN2.out HR3.out HU3.out HN3.out (fun x hx => (HFR.out x hx).1) u' hl'⟩⟩
  case hQ =>
    clear hD hl b2' hsrc0 k0 k1 k2 r3 r4 r5 r6
    rintro e w3 ⟨⟨v, rfl⟩, S', hg, hj | ⟨i, hi, hj, him⟩⟩
    · refine ⟨v, rfl, .inl ⟨hj.hl, fun w4 u4 => ?_⟩⟩
      have HIT : Hid ((frames xs).take (frames xs).length = (frames xs).take most) := by
        show (frames xs).take (frames xs).length = (frames xs).take most
        rw [List.take_length, List.take_of_length_le hj.lm]
      obtain ⟨vv, uu, E, ko, ka, hD4, hend⟩ := told_fin hj hg u4 B2 (by omega) HIT.out
      have co := ko.cell
      have ca : w4.cell? ⟨w.heap.size + 1 + 1, 0, none⟩ = some uu := ka.cell
      have HD := Lib.hid hD4
      have HEND := Lib.hid hend
      clear hD4 hend hj hg ko ka
      have hmx : Tryd.prog.follows .mixedOrders = true := by kernel_rfl
      gi_wp2
      first | (gi_region_with_o (fail)) | fail
      all_goals
        gi_wp2
        refine ⟨by simp, .inl ⟨_, _, rfl, run_takeDeferred (b := D) (ds := []) (HD.out), ?_⟩⟩
        obtain ⟨q1, q2, q3⟩ := HEND.out
        exact ⟨_, results_tmp2 rfl _ _ _, ⟨vv, uu, E, rfl, q1, q2⟩, q3⟩
    · refine ⟨v, rfl, .inr ⟨.exit 0, hj.hl, fun w4 u4 => ?_⟩⟩
      have HIT : Hid ((frames xs).take i = (frames xs).take most) := by
        show (frames xs).take i = (frames xs).take most
        rw [him]
      obtain ⟨vv, uu, E, ko, ka, hD4, hend⟩ := told_fin hj hg u4 B2 (by omega) HIT.out
      have co := ko.cell
      have ca : w4.cell? ⟨w.heap.size + 1 + 1, 0, none⟩ = some uu := ka.cell
      have HD := Lib.hid hD4
      have HEND := Lib.hid hend
      clear hD4 hend hj hg ko ka
      have hmx : Tryd.prog.follows .mixedOrders = true := by kernel_rfl
      gi_wp2
      first | (gi_region_with_o (fail)) | fail
      all_goals
        gi_wp2
        refine ⟨by simp, .inl ⟨_, _, rfl, run_takeDeferred (b := D) (ds := []) (HD.out), ?_⟩⟩
        obtain ⟨q1, q2, q3⟩ := HEND.out
        exact ⟨_, results_tmp2 rfl _ _ _, ⟨vv, uu, E, rfl, q1, q2⟩, q3⟩
end Go.Proofs.YtdbngmnpfcdhdaaDoor
