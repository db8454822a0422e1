/-
  A map of ints to messages as a list of messages: what is looked up, put, deleted; messages by their keys. Conditions: those of each theorem.
-/
import Derived.Test.YtcnheikckfhniaaTimMap
import Derived.Maps.RangeWalk
namespace Go.Proofs.Ytcnheikckfhniaa
open Go.RowKit Go.Maps Go.ChangeMaps
open Go.WideElems (Fit rd rg pl)
set_option maxRecDepth 100000

structure Msg where
  key : Int
  kind : Int
  rma : Int
  value : Int
  tries : Int
  due : Int
deriving DecidableEq
def msg0 : Msg := ⟨0, 0, 0, 0, 0, 0⟩
instance : Inhabited Msg := ⟨msg0⟩

/-! ### lists of messages -/
/-- No key twice. -/
def NDK (xs : List Msg) : Prop := xs.Pairwise (fun x y => x.key ≠ y.key)
def look (xs : List Msg) (a : Int) : Option Msg := xs.find? (fun m => m.key == a)
/-- What the map tells: nought, where there is none. -/
def got (xs : List Msg) (a : Int) : Msg := (look xs a).getD msg0
def wo (xs : List Msg) (a : Int) : List Msg := xs.filter (fun m => m.key != a)
theorem NDK.perm {xs ys : List Msg} (h : NDK xs) (hp : xs.Perm ys) : NDK ys := (hp.pairwise_iff (fun e => Ne.symm e)).1 h
theorem NDK.filter {xs : List Msg} (h : NDK xs) (q : Msg → Bool) : NDK (xs.filter q) := List.Pairwise.filter _ h
theorem look_some {xs : List Msg} (h : NDK xs) {a : Int} {m : Msg} : look xs a = some m ↔ m ∈ xs ∧ m.key = a := by
  unfold look
  induction xs with
  | nil => simp
  | cons x xs ih =>
    obtain ⟨h1, h2⟩ := List.pairwise_cons.1 h
    rw [List.find?_cons]
    by_cases e : x.key = a
    · have : (x.key == a) = true := by simpa using e
      rw [this]
      constructor
      · intro he
        injection he with he
        subst he
        exact ⟨List.mem_cons_self .., e⟩
      · rintro ⟨hm, hk⟩
        rcases List.mem_cons.1 hm with rfl | hm
        · rfl
        · exact absurd (e.trans hk.symm) (h1 m hm)
    · have : (x.key == a) = false := by simpa using e
      rw [this]
      dsimp only
      rw [ih h2]
      constructor
      · rintro ⟨hm, hk⟩; exact ⟨List.mem_cons_of_mem _ hm, hk⟩
      · rintro ⟨hm, hk⟩
        rcases List.mem_cons.1 hm with rfl | hm
        · exact absurd hk e
        · exact ⟨hm, hk⟩
theorem look_none {xs : List Msg} {a : Int} : look xs a = none ↔ ∀ m ∈ xs, m.key ≠ a := by
  unfold look
  rw [List.find?_eq_none]
  simp
theorem look_mem {xs : List Msg} (h : NDK xs) {m : Msg} (hm : m ∈ xs) : look xs m.key = some m := (look_some h).2 ⟨hm, rfl⟩
theorem look_perm {xs ys : List Msg} (h : NDK xs) (hp : xs.Perm ys) (a : Int) : look xs a = look ys a := by
  cases e : look ys a with
  | none =>
    rw [look_none] at e ⊢
    exact fun m hm => e m (hp.mem_iff.1 hm)
  | some m =>
    obtain ⟨h1, h2⟩ := (look_some (h.perm hp)).1 e
    exact (look_some h).2 ⟨hp.mem_iff.2 h1, h2⟩
theorem wo_mem {xs : List Msg} {a : Int} {m : Msg} : m ∈ wo xs a ↔ m ∈ xs ∧ m.key ≠ a := by
  unfold wo
  rw [List.mem_filter]
  simp
theorem NDK.less {xs : List Msg} (h : NDK xs) (a : Int) : NDK (wo xs a) := h.filter _
theorem NDK.put {xs : List Msg} (h : NDK xs) (m : Msg) : NDK (m :: wo xs m.key) :=
  List.pairwise_cons.2 ⟨fun _ hx e => (wo_mem.1 hx).2 e.symm, h.less _⟩
theorem look_wo {xs : List Msg} (h : NDK xs) (a b : Int) : look (wo xs a) b = if b = a then none else look xs b := by
  by_cases e : b = a
  · rw [if_pos e, look_none]
    exact fun m hm => e ▸ (wo_mem.1 hm).2
  · rw [if_neg e]
    cases e2 : look xs b with
    | none =>
      rw [look_none] at e2 ⊢
      exact fun m hm => e2 m (wo_mem.1 hm).1
    | some m =>
      obtain ⟨h1, h2⟩ := (look_some h).1 e2
      exact (look_some (h.less a)).2 ⟨wo_mem.2 ⟨h1, fun x => e (h2.symm.trans x)⟩, h2⟩
theorem look_put {xs : List Msg} (h : NDK xs) (m : Msg) (b : Int) : look (m :: wo xs m.key) b = if b = m.key then some m else look xs b := by
  by_cases e : b = m.key
  · rw [if_pos e]
    exact (look_some (h.put m)).2 ⟨List.mem_cons_self .., e.symm⟩
  · rw [if_neg e]
    have := look_wo h m.key b
    rw [if_neg e] at this
    rw [← this]
    unfold look
    rw [List.find?_cons]
    have : (m.key == b) = false := by simpa using fun x => e x.symm
    rw [this]
theorem wo_none {xs : List Msg} {a : Int} (h : look xs a = none) : wo xs a = xs := by
  rw [look_none] at h
  unfold wo
  rw [List.filter_eq_self]
  intro x hx
  simpa using h x hx
theorem wo_perm {xs ys : List Msg} (h : xs.Perm ys) (a : Int) : (wo xs a).Perm (wo ys a) := h.filter _
/-- With the one that is there, and without it. -/
theorem wo_split {xs : List Msg} (h : NDK xs) {a : Int} {m : Msg} (hm : look xs a = some m) : xs.Perm (m :: wo xs a) := by
  obtain ⟨h1, h2⟩ := (look_some h).1 hm
  obtain ⟨A, B, rfl⟩ := List.append_of_mem h1
  have hp : (A ++ m :: B).Perm (m :: (A ++ B)) := List.perm_middle
  have hn := h.perm hp
  obtain ⟨n1, n2⟩ := List.pairwise_cons.1 hn
  have e1 : wo (m :: (A ++ B)) a = A ++ B := by
    unfold wo
    rw [List.filter_cons]
    have : (m.key != a) = false := by simpa using h2
    rw [this]
    simp only [Bool.false_eq_true, if_false]
    rw [List.filter_eq_self]
    intro x hx
    simpa using fun e : x.key = a => n1 x hx (h2.trans e.symm)
  have := wo_perm hp a
  rw [e1] at this
  exact hp.trans (List.Perm.cons _ this.symm)
theorem wo_length {xs : List Msg} (h : NDK xs) (a : Int) : (wo xs a).length + (if (look xs a).isSome then 1 else 0) = xs.length := by
  cases e : look xs a with
  | none => rw [wo_none e]; rfl
  | some m => rw [(wo_split h e).length_eq]; rfl

/-! ### the map -/
theorem mkeyed' : Keyed Try.prog 3 := mkeyed
def rMsg (v : Value) : Option (DataW Msg × List MemPlace) :=
  match v with
  | .agg cs => match cs.toList with
    | [.int .i64 a, .int .i64 b, .int .i64 c, .int .i64 d, .int .i64 e, .int .i64 f] => some (.held ⟨a, b, c, d, e, f⟩, [])
    | _ => none
  | _ => none
theorem rMsg_mk (m : Msg) : rMsg (.agg #[.int .i64 m.key, .int .i64 m.kind, .int .i64 m.rma, .int .i64 m.value, .int .i64 m.tries, .int .i64 m.due]) = some (.held m, []) := rfl
theorem rMsg_inv {v : Value} {z : DataW Msg × List MemPlace} (h : rMsg v = some z) : ∃ m : Msg, v = .agg #[.int .i64 m.key, .int .i64 m.kind, .int .i64 m.rma, .int .i64 m.value, .int .i64 m.tries, .int .i64 m.due] ∧ z = (.held m, []) := by
  unfold rMsg at h
  split at h
  · rename_i cs
    split at h
    · rename_i a b c d e f hl
      injection h with h
      refine ⟨⟨a, b, c, d, e, f⟩, ?_, h.symm⟩
      congr 1
      exact Array.ext' hl
    · cases h
  · cases h
theorem msg_zero (w : World) : (zeroValue 31).run Try.prog w = .ok (.agg #[.int .i64 msg0.key, .int .i64 msg0.kind, .int .i64 msg0.rma, .int .i64 msg0.value, .int .i64 msg0.tries, .int .i64 msg0.due]) w := by kernel_rfl
theorem own_tight' {H : Type} {w : World} {P : Program} {k : TypeId} {R : Value → Option (DataW H × List MemPlace)} {b n : Nat} {D : DataW H} (h : w.ownsMap P k R b n D) : w.ownsMap P k R b (Maps.size D) D := by
  obtain ⟨es, clock, hb, F, _, rfl⟩ := h
  exact ⟨es, clock, hb, F, by simp [Maps.size, length_sorted], rfl⟩
/-- Block b is a map of these messages by their keys. -/
def MsgMap (w : World) (b : Nat) (xs : List Msg) : Prop :=
  ∃ D : DataW Msg, w.ownsMap Try.prog 3 rMsg b xs.length D ∧ Maps.size D = xs.length ∧ ∀ a, W64 a → Maps.has D (ik a) = (look xs a).isSome ∧ ∀ m, look xs a = some m → D.atKey (ik a) (.held msg0) = .held m
theorem MsgMap.lt {w : World} {b : Nat} {xs : List Msg} (h : MsgMap w b xs) : b < w.heap.size := by obtain ⟨D, h1, _⟩ := h; exact h1.lt
theorem MsgMap.block {w w' : World} {b : Nat} {xs : List Msg} (h : MsgMap w b xs) (hb : w'.heap[b]? = w.heap[b]?) : MsgMap w' b xs := by
  obtain ⟨D, ⟨es, clock, h1, F⟩, h2⟩ := h
  exact ⟨D, ⟨es, clock, hb.trans h1, F⟩, h2⟩
theorem MsgMap.upd {S : Nat → Prop} {w w' : World} {b : Nat} {xs : List Msg} (h : MsgMap w b xs) (hu : Upd S w w') (hb : ¬ S b) : MsgMap w' b xs := h.block (hu.block b h.lt hb)
theorem MsgMap.below {w w' : World} {b : Nat} {xs : List Msg} (h : MsgMap w b xs) (hb : Below w.heap.size w w') : MsgMap w' b xs := h.upd (S := fun _ => False) (Upd.below hb) (fun x => x)
theorem MsgMap.made (w : World) : MsgMap (w.alloc (.map #[] 0)) w.heap.size [] :=
  ⟨.map [], World.ownsMap_made _ _ _ _, rfl, fun _ _ => ⟨rfl, fun _ h => by cases h⟩⟩
theorem MsgMap.perm {w : World} {b : Nat} {xs ys : List Msg} (h : MsgMap w b xs) (hn : NDK xs) (hp : xs.Perm ys) : MsgMap w b ys := by
  obtain ⟨D, h1, h2, h3⟩ := h
  refine ⟨D, hp.length_eq ▸ h1, h2.trans hp.length_eq, fun a ha => ?_⟩
  rw [← look_perm hn hp a]
  exact h3 a ha
theorem MsgMap.noCells {w : World} {b : Nat} {xs : List Msg} (h : MsgMap w b xs) (o : Nat) : w.cell? ⟨b, o, none⟩ = none := by
  obtain ⟨D, ⟨es, clock, h1, F⟩, h2⟩ := h
  simp [World.cell?, h1]
section
variable {w : World} {b : Nat} {xs : List Msg} {a : Int}
theorem MsgMap.val (h : MsgMap w b xs) (ha : W64 a) (c : Bool) : (Instr.lookup 53 (.map (some b)) (.int .i64 a) c).run Try.prog w = .ok (if c then .tuple #[.agg #[.int .i64 (got xs a).key, .int .i64 (got xs a).kind, .int .i64 (got xs a).rma, .int .i64 (got xs a).value, .int .i64 (got xs a).tries, .int .i64 (got xs a).due], .bool (look xs a).isSome] else .agg #[.int .i64 (got xs a).key, .int .i64 (got xs a).kind, .int .i64 (got xs a).rma, .int .i64 (got xs a).value, .int .i64 (got xs a).tries, .int .i64 (got xs a).due]) w := by
  obtain ⟨D, h1, h2, h3⟩ := h
  obtain ⟨h4, h5⟩ := h3 a ha
  have hat : D.atKey (ik a) (.held msg0) = .held (got xs a) := by
    unfold got
    cases e : look xs a with
    | none =>
      have h6 : Maps.has D (ik a) = false := by rw [h4, e]; rfl
      rw [atKey_of_not_has h6]
      rfl
    | some m => exact h5 m e
  cases c
  · obtain ⟨v, ps, hrun, hv⟩ := h1.lookup mkeyed Try.underlying53 (msg_zero w) (rMsg_mk msg0) (mkey ha)
    rw [hat] at hv
    obtain ⟨m, rfl, hm⟩ := rMsg_inv hv
    injection hm with hm
    injection hm with hm
    subst hm
    exact hrun
  · obtain ⟨v, ps, hrun, hv⟩ := h1.look_ok mkeyed Try.underlying53 (msg_zero w) (rMsg_mk msg0) (mkey ha)
    rw [hat] at hv
    obtain ⟨m, rfl, hm⟩ := rMsg_inv hv
    injection hm with hm
    injection hm with hm
    subst hm
    rw [hrun, h4]
    rfl
theorem msg_val_nil (ha : W64 a) (c : Bool) : (Instr.lookup 53 (.map none) (.int .i64 a) c).run Try.prog w = .ok (if c then .tuple #[.agg #[.int .i64 msg0.key, .int .i64 msg0.kind, .int .i64 msg0.rma, .int .i64 msg0.value, .int .i64 msg0.tries, .int .i64 msg0.due], .bool false] else .agg #[.int .i64 msg0.key, .int .i64 msg0.kind, .int .i64 msg0.rma, .int .i64 msg0.value, .int .i64 msg0.tries, .int .i64 msg0.due]) w := by
  have := Maps.look_nil (P := Try.prog) (w := w) c mkeyed Try.underlying53 (msg_zero w) (mkey ha)
  cases c <;> exact this
theorem MsgMap.put (h : MsgMap w b xs) (hn : NDK xs) (hl : xs.length < maxLen) (m : Msg) (ha : W64 m.key) :
    ∃ w', (Instr.mapUpdate 53 (.map (some b)) (.int .i64 m.key) (.agg #[.int .i64 m.key, .int .i64 m.kind, .int .i64 m.rma, .int .i64 m.value, .int .i64 m.tries, .int .i64 m.due])).run Try.prog w = .ok () w' ∧ MsgMap w' b (m :: wo xs m.key) ∧ w.mapTurned w' b := by
  obtain ⟨D, h1, h2, h3⟩ := h
  obtain ⟨w', hrun, h4, h5⟩ := h1.store mkeyed Try.underlying53 hl (mkey ha) (rMsg_mk m)
  refine ⟨w', hrun, ?_, h5⟩
  have hk : WideAt.IsKeyLit (ik m.key) := trivial
  have hs : Maps.size (D.put (ik m.key) (.held m)) = (m :: wo xs m.key).length := by
    have := wo_length hn m.key
    rw [size_put (h1.tidy mkeyed), (h3 _ ha).1, h2, List.length_cons]
    split
    · rename_i e; rw [if_pos e] at this; omega
    · rename_i e; rw [if_neg e] at this; omega
  refine ⟨_, by rw [← hs]; exact own_tight' h4, hs, fun x hx => ?_⟩
  rw [look_put hn m x]
  by_cases e : x = m.key
  · subst e
    rw [if_pos rfl, has_put_same h1.isMap hk, atKey_put_same h1.isMap hk]
    exact ⟨rfl, fun j hj => by cases hj; rfl⟩
  · have hne : ik x ≠ ik m.key := fun h => e (by unfold ik at h; injection h)
    rw [if_neg e, has_put_other hne, atKey_put_other hne]
    exact h3 x hx
theorem delIs {w' : World} {D : DataW Msg} {m : Nat} (hn : NDK xs) (h1 : w.ownsMap Try.prog 3 rMsg b xs.length D) (h2 : Maps.size D = xs.length) (h3 : ∀ a, W64 a → Maps.has D (ik a) = (look xs a).isSome ∧ ∀ m, look xs a = some m → D.atKey (ik a) (.held msg0) = .held m)
    (ha : W64 a) (h4 : w'.ownsMap Try.prog 3 rMsg b m (D.del (ik a))) : MsgMap w' b (wo xs a) := by
  have hs : Maps.size (D.del (ik a)) = (wo xs a).length := by
    have := wo_length hn a
    have q := size_del (D := D) (k := ik a) (h1.tidy mkeyed)
    rw [(h3 a ha).1, h2] at q
    omega
  refine ⟨_, by rw [← hs]; exact own_tight' h4, hs, fun x hx => ?_⟩
  rw [look_wo hn a x]
  by_cases e : x = a
  · subst e
    rw [if_pos rfl, has_del_same]
    exact ⟨rfl, fun j hj => by cases hj⟩
  · have hne : ik x ≠ ik a := fun h => e (by unfold ik at h; injection h)
    rw [if_neg e, has_del_other hne, atKey_del_other hne]
    exact h3 x hx
theorem MsgMap.del (h : MsgMap w b xs) (hn : NDK xs) (ha : W64 a) (ty : TypeId) :
    ∃ w', (Builtin.delete_ #[53, 3] ty #[.map (some b), .int .i64 a]).run Try.prog w = .ok (.tuple #[]) w' ∧ MsgMap w' b (wo xs a) ∧ w.mapTurned w' b ∧
      ∀ r n D left cnt, w.ranges Try.prog 3 rMsg b r n D left cnt → ∃ cnt', w'.ranges Try.prog 3 rMsg b r n (D.del (ik a)) (fun z => left z && !z.sameKey (ik a)) cnt' ∧ cnt' ≤ cnt := by
  obtain ⟨D, h1, h2, h3⟩ := h
  obtain ⟨w', hrun, h4, h5⟩ := h1.drop mkeyed Try.underlying53 (mkey ha) ty
  refine ⟨w', hrun, delIs hn h1 h2 h3 ha h4, h5, fun r n D left cnt hr => ?_⟩
  obtain ⟨w2, cnt', hrun2, r1, r2, r3⟩ := hr.drop mkeyed Try.underlying53 (mkey ha) ty
  rw [hrun] at hrun2
  injection hrun2 with _ e
  subst e
  exact ⟨cnt', r1, r2⟩
theorem msg_del_nil (ha : W64 a) (ty : TypeId) : (Builtin.delete_ #[53, 3] ty #[.map none, .int .i64 a]).run Try.prog w = .ok (.tuple #[]) w :=
  Maps.drop_nil mkeyed Try.underlying53 (mkey ha) ty
end
end Go.Proofs.Ytcnheikckfhniaa
