/-
  Ranges over functions at the wide fence: a round out of its body's walk; the statement out of the iterator's call; whose blocks are whose. Conditions: those of each theorem.
-/
import Derived.Test.YteipcbpkgpffjaaDoorBegin
import Derived.RangeFuncNested
import Derived.RangeFuncBound
import Derived.RangeFuncCalls
import Derived.RangeFuncLeaves
import Derived.Shelf.Abstract
import Derived.Shelf.RegionOpen
import Derived.OwnWalkIn
import Derived.TacticsInMore
import Derived.LoopNIn
import Derived.LoopIn
import Derived.Maps.AppendAt
namespace Go.Proofs.YteipcbpkgpffjaaDoor
open Go.RowKit Go.Shelf
set_option maxRecDepth 100000

theorem upd_put {S : Nat → Prop} {W : World} {l : Nat} (o : Obj) (hl : S l) : Upd S W (W.putObj l o) :=
  ⟨rfl, rfl, rfl, by simp, fun k _ hn => World.putObj_heap_other (fun e => hn (by rw [e]; exact hl))⟩
theorem heap_upd {S : Nat → Prop} {W W' : World} {k : Nat} {o : Obj} (h : W.heap[k]? = some o) (hu : Upd S W W') (hn : ¬ S k) : W'.heap[k]? = some o :=
  (hu.block k (Array.getElem?_eq_some_iff.1 h).1 hn).trans h
theorem heap_below {W W' : World} {k : Nat} {o : Obj} (h : W.heap[k]? = some o) (hb : Below W.heap.size W W') : W'.heap[k]? = some o :=
  (hb.block k (Array.getElem?_eq_some_iff.1 h).1).trans h
theorem heap_lt {W : World} {k : Nat} {o : Obj} (h : W.heap[k]? = some o) : k < W.heap.size := (Array.getElem?_eq_some_iff.1 h).1

theorem Upd.sub {S T : Nat → Prop} {W W' : World} (h : Upd S W W') (hs : ∀ k, S k → T k) : Upd T W W' := h.mono fun k _ => hs k
theorem Upd.on {S : Nat → Prop} {A B C : World} (h : Upd S A B) (k : Upd S B C) : Upd S A C := h.trans k fun _ _ x => x
theorem below_put {B : Nat} {W : World} {l : Nat} (o : Obj) (hl : B ≤ l) (hW : B ≤ W.heap.size) : Below B W (W.putObj l o) :=
  (upd_put (S := fun k => k = l) o rfl).toBelow hW (by omega)

/-- A loop's record in a round; behind a round that has left it. -/
def busy (r : Loop) : Loop := { r with state := .busy }
def halted (r : Loop) (c : Code) : Loop := { r with state := .done, pending := some c }

section
variable {n : Nat} {P : Program}

/-- How a round may end: its record is turned; yield answers. -/
def RoundEnds (l : Nat) (r : Loop) (R : Ending → World → Prop) : Exit → Act → World → Prop
  | .normal, _, w => w.heap[l]? = some (.loop (busy r)) ∧ ∀ w', Upd (fun k => k = l) w w' → w'.heap[l]? = some (.loop r) → R (.returned (.bool true)) w'
  | .ret, _, w => w.heap[l]? = some (.loop (busy r)) ∧ ∀ w', Upd (fun k => k = l) w w' → w'.heap[l]? = some (.loop (halted r .ret)) → R (.returned (.bool false)) w'
  | .exit id, _, w => w.heap[l]? = some (.loop (busy r)) ∧ ∀ w', Upd (fun k => k = l) w w' → w'.heap[l]? = some (.loop (halted r (.exit id))) → R (.returned (.bool false)) w'
  | _, _, _ => False

/-- A call of yield, out of the round's walk. -/
theorem yield_of_walk {l : Nat} {r : Loop} {args : Array Value} {W : World} {R : Ending → World → Prop} (hl : W.heap[l]? = some (.loop r)) (hr : r.state = .ready) (hp : r.pending = none) (hs : args.size = r.params.size)
    (h : ∀ K : Act → World → Prop, (∀ a₁, (∀ W1, Upd (fun k => k = l) W W1 → W1.heap[l]? = some (.loop (busy r)) → r.body.wpIn (Fence.wide.inRound l) n P (RoundEnds l r R) a₁ W1) → K a₁ W) →
      r.assign.wpIn (Fence.wide.inRound l) n P (Exit.then K (fun _ _ _ => False)) { tmps := (r.params.zip args).foldl (fun t (p, v) => t.setIfInBounds p v) r.tmps, defers := [] } W) :
    YieldAt Fence.wide n P l args W R := by
  refine ⟨_, _, _, _, run_yield hl hs, roundIn_of_wpIn trivial (h _ fun a₁ hbody => ⟨_, run_beginRound hl hr, wpIn_mono (hbody _ (upd_put _ rfl) (World.putObj_heap_same (heap_lt hl))) ?_⟩)⟩
  intro e a w hq
  cases e with
  | normal =>
    obtain ⟨h1, h2⟩ := hq
    refine ⟨_, _, run_endRound none h1, h2 _ (upd_put _ rfl) ?_⟩
    rw [World.putObj_heap_same (heap_lt h1)]
    cases r
    simp_all [busy]
  | ret => exact ⟨_, _, run_endRound (some .ret) hq.1, hq.2 _ (upd_put _ rfl) (World.putObj_heap_same (heap_lt hq.1))⟩
  | exit id => exact ⟨_, _, run_endRound (some (.exit id)) hq.1, hq.2 _ (upd_put _ rfl) (World.putObj_heap_same (heap_lt hq.1))⟩
  | goto t => exact hq.elim
  | panic c => exact hq.elim
  | outgrown => exact hq.elim

/-- What is asked behind the iterator's call. -/
def RangeEnds (P : Program) (n l : Nat) (r : Loop) (Q : Exit → Act → World → Prop) (a : Act) (w : World) : Prop :=
  (w.heap[l]? = some (.loop r) ∧ ∀ w', Upd (fun k => k = l) w w' → Q .normal a w') ∨ ∃ c, w.heap[l]? = some (.loop (halted r c)) ∧ ∀ w', Upd (fun k => k = l) w w' → c.wpIn Fence.wide n P Q a w'

/-- The statement, out of the iterator's call. -/
theorem range_of_call {g : Operand} {ps : Array Tmp} {assign body : Code} {Q : Exit → Act → World → Prop} {a : Act} {w : World} {gf : Nat} {lb : Array Value}
    (hg : a.eval g = .func (.func gf) #[] lb) (eg : ∀ args w, (callFunc gf args).run P w = .ok (.enter gf args) w)
    (h : ∀ r : Loop, r.state = .ready → r.pending = none → r.tmps = a.tmps → r.params = ps → r.assign = assign → r.body = body → ∀ w2, Below w.heap.size w w2 → w2.heap.size = w.heap.size + 2 →
      w2.heap[w.heap.size]? = some (.deferred (some [])) → w2.heap[w.heap.size + 1]? = some (.loop r) → CallsIn Fence.wide (n - 1) P gf (#[.func (.yield (w.heap.size + 1)) #[] #[]] ++ lb) w2
      fun e w3 => ∃ v, e = .returned v ∧ RangeEnds P n (w.heap.size + 1) r Q { a with defers := { target := .collected w.heap.size, args := #[] } :: a.defers } w3) :
    (Code.rangeFunc g ps assign body).wpIn Fence.wide n P Q a w := by
  refine wpIn_rangeFunc fun fn _ => ?_
  have h := h { state := .ready, pending := none, fn := fn, tmps := a.tmps, params := ps, assign := assign, body := body, defers := w.heap.size } rfl rfl rfl rfl rfl rfl
  generalize hrr : ({ state := .ready, pending := none, fn := fn, tmps := a.tmps, params := ps, assign := assign, body := body, defers := w.heap.size } : Loop) = rr at h
  obtain ⟨W1, hW⟩ : ∃ W1, (w.alloc (.deferred (some []))).alloc (.loop rr) = W1 := ⟨_, rfl⟩
  have h := h W1 (by rw [← hW]; exact (upd_box _).trans ((upd_box _).mono (by simp))) (by rw [← hW]; simp) (by rw [← hW]; exact (Below.heap_alloc _ _ _ (by simp)).trans (World.alloc_heap_new w _))
    (by rw [← hW]; have := World.alloc_heap_new (w.alloc (.deferred (some []))) (.loop rr); rwa [World.size_alloc] at this)
  refine ⟨_, _, W1, { target := .fn (.func gf) lb, args := #[.func (.yield (w.heap.size + 1)) #[] #[]] }, W1, gf, _, W1, by rw [← hW, ← hrr]; exact run_enterLoop_outer fn a.tmps ps assign body, ?_, fun _ _ => trivial, ?_, fun h => by simp [Fence.wide] at h, h.mono ?_⟩
  · simp only [resolve, hg]
    simp [go_sem]
  · simp [invoke, go_sem, eg]
  · rintro e w3 ⟨v, rfl, h3⟩
    rcases h3 with ⟨h4, h5⟩ | ⟨c, h4, h5⟩
    · exact ⟨none, _, by rw [run_endLoop h4 (by rw [← hrr]; simp)]; rw [← hrr], h5 _ (upd_put _ rfl)⟩
    · exact ⟨some c, _, by rw [run_endLoop h4 (by simp [halted])]; rfl, h5 _ (upd_put _ rfl)⟩
end

/-- The caller's blocks, behind a round, are what they were, and new ones; nothing else has turned. -/
structure Grows (S : Nat → Prop) (W : World) (S' : Nat → Prop) (W' : World) : Prop where
  upd : Upd S W W'
  new : ∀ k, S' k → S k ∨ W.heap.size ≤ k
theorem Grows.refl (S : Nat → Prop) (W : World) : Grows S W S W := ⟨Upd.refl _ _, fun _ h => .inl h⟩
theorem Grows.trans {S S1 S2 : Nat → Prop} {W W1 W2 : World} (h : Grows S W S1 W1) (k : Grows S1 W1 S2 W2) : Grows S W S2 W2 :=
  ⟨h.upd.trans k.upd (fun i hi hs => (h.new i hs).elim id (fun x => by omega)), fun i hs => (k.new i hs).elim (h.new i) (fun x => .inr (Nat.le_trans h.upd.size x))⟩
theorem Grows.ahead {S S' : Nat → Prop} {W W1 W2 : World} (hb : Below W.heap.size W W1) (k : Grows S W1 S' W2) : Grows S W S' W2 :=
  ⟨(below_upd S hb).trans k.upd (fun _ _ h => h), fun i hs => (k.new i hs).elim .inl (fun x => .inr (Nat.le_trans hb.size x))⟩
theorem Grows.kept {S S' : Nat → Prop} {W W' : World} (h : Grows S W S' W') {k : Nat} (hk : k < W.heap.size) (hs : ¬ S k) : ¬ S' k := fun x => (h.new k x).elim hs (fun y => by omega)

/-- The bytes that are walked over, as memory holds them: in blocks that aren't the caller's. -/
structure SrcAt (W : World) (S : Nat → Prop) (B : Nat) (a : Option Addr) (xs : List UInt8) (n c : Nat) : Prop where
  box : W.cell? ⟨B, 0, none⟩ = some (.slice a n c)
  blt : B < W.heap.size
  bS : ¬ S B
  bytes : IsBytes W a xs
  aS : xs ≠ [] → ∀ x, a = some x → ¬ S x.block
  halves : HalvesAt W
  hS : ¬ S 0
  len : xs.length = n
  cap : n ≤ c
  most : c ≤ maxLen
  nil : a = none → c = 0
theorem SrcAt.grows {W W' : World} {S S' : Nat → Prop} {B : Nat} {a : Option Addr} {xs : List UInt8} {n c : Nat} (h : SrcAt W S B a xs n c) (g : Grows S W S' W') : SrcAt W' S' B a xs n c :=
  ⟨(g.upd.cell (p := ⟨B, 0, none⟩) h.blt h.bS).trans h.box, Nat.lt_of_lt_of_le h.blt g.upd.size, g.kept h.blt h.bS, h.bytes.upd g.upd h.aS, fun h0 x hx => g.kept (h.bytes.lt h0 x hx) (h.aS h0 x hx),
    ⟨Nat.lt_of_lt_of_le h.halves.lt g.upd.size, fun i hi => (g.upd.cell (p := ⟨0, i, none⟩) h.halves.lt h.hS).trans (h.halves.val i hi)⟩, g.kept h.halves.lt h.hS, h.len, h.cap, h.most, h.nil⟩
theorem SrcAt.below {W W' : World} {S : Nat → Prop} {B : Nat} {a : Option Addr} {xs : List UInt8} {n c : Nat} (h : SrcAt W S B a xs n c) (hb : Below W.heap.size W W') : SrcAt W' S B a xs n c :=
  h.grows (S' := S) ⟨below_upd S hb, fun _ h => .inl h⟩

/-- The caller's state between two rounds hangs on its own blocks alone. -/
structure Caller (J : Nat → (Nat → Prop) → World → Prop) : Prop where
  lt : ∀ {i S W}, J i S W → ∀ k, S k → k < W.heap.size
  keep : ∀ {i S W W'}, J i S W → Upd (fun k => ¬ S k) W W' → J i S W'
theorem Caller.below {J : Nat → (Nat → Prop) → World → Prop} (h : Caller J) {i : Nat} {S : Nat → Prop} {W W' : World} (hj : J i S W) (hb : Below W.heap.size W W') : J i S W' := h.keep hj (below_upd _ hb)
end Go.Proofs.YteipcbpkgpffjaaDoor
