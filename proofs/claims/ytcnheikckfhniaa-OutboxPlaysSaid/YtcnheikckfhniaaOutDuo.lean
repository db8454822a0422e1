/-
  OutboxPlays: the outbox and the law's own list beside each other. Conditions: those of each theorem.
-/
import Derived.Test.YtcnheikckfhniaaOutMod
import Derived.Test.YtcnheikckfhniaaOutDrop
namespace Go.Proofs.Ytcnheikckfhniaa
open Go.RowKit
set_option maxRecDepth 100000

/-- The outbox and the law's own list, alike, behind so many acts. -/
structure Duo (w0 wr : World) (p : Nat) (S : Nat → Prop) (last : Int) (xs : List Msg) (am : Option Addr) (nm cm : Nat) (B : Nat) : Prop where
  out : OutAt wr p S last xs
  inn : ∀ k, S k → w0.heap.size ≤ k ∧ k < wr.heap.size
  row : wr.ownsRow w0.heap.size 30 6 (.slice am nm cm) nm (mcells xs)
  len : xs.length = nm
  off : Off S am nm cm
  up : Below w0.heap.size w0 wr
  rise : Rise xs
  num : (0 ≤ last ∧ last ≤ B) ∧ xs.length ≤ B ∧ ∀ m ∈ xs, 0 ≤ m.tries ∧ m.tries ≤ B
section
variable {w0 wr w1 : World} {p : Nat} {S : Nat → Prop} {last : Int} {xs : List Msg} {am : Option Addr} {nm cm B : Nat}
theorem Duo.below (h : Duo w0 wr p S last xs am nm cm B) (hb : Below wr.heap.size wr w1) : Duo w0 w1 p S last xs am nm cm B :=
  ⟨OutSt.below h.out hb, fun k hk => ⟨(h.inn k hk).1, Nat.lt_of_lt_of_le (h.inn k hk).2 hb.size⟩, ownsRow_upd (S := fun _ => False) h.row (Upd.below hb) (fun _ _ x => x), h.len, h.off, h.up.trans (hb.mono h.up.size), h.rise, h.num⟩
theorem Duo.mrow (h : Duo w0 wr p S last xs am nm cm B) : MRow wr am xs := mrow_own h.row h.len
theorem Duo.start {w0 w1 : World} (h : OutAt w1 w0.heap.size (fun k => k = w0.heap.size) 0 []) (hb : Below w0.heap.size w0 w1) (hs : w1.heap.size = w0.heap.size + 1) : Duo w0 w1 w0.heap.size (fun k => k = w0.heap.size) 0 [] none 0 0 0 :=
  ⟨h, fun k hk => by omega, World.ownsRow_nil _ _ _ _, rfl, (fun q hq => by cases hq), hb, List.Pairwise.nil, ⟨by omega, Nat.le_refl _, fun m hm => by cases hm⟩⟩
/-- A message is put, and appended to the list. -/
theorem Duo.put {w3 w9 w7 : World} {a4 : Option Addr} {c4 : Nat} {x : Msg} (h : Duo w0 wr p S last xs am nm cm B) (b3 : Below wr.heap.size wr w3) (hO : OutAt w9 p (More S w3 w9) (last + 1) (x :: xs)) (u9 : Upd S w3 w9) (hk : x.key = last + 1) (ht : x.tries = 1)
    (g1 : w7.ownsRow w0.heap.size 30 6 (.slice a4 (nm + 1) c4) (nm + 1) (mcells (xs ++ [x]))) (g3 : Upd (fun q => (Value.slice am nm cm).ownBlock = some q) w9 w7) (g4 : ∀ q, (Value.slice a4 (nm + 1) c4).ownBlock = some q → (Value.slice am nm cm).ownBlock = some q ∨ w9.heap.size ≤ q) :
    Duo w0 w7 p (More S w3 w9) (last + 1) (xs ++ [x]) a4 (nm + 1) c4 (B + 1) := by
  have s3 := b3.size
  have s9 := u9.size
  have s7 := g3.size
  have hun : ∀ q, q < wr.heap.size → ¬ S q → ¬ More S w3 w9 q := fun q h1 h2 h3 => h3.elim h2 (fun y => by omega)
  have hwl := h.num
  refine ⟨OutAt.perm (OutSt.upd hO g3 (fun k hk e => ?_)) (List.perm_append_singleton _ _).symm, fun k hk => ?_, g1, by rw [List.length_append, h.len]; rfl, fun q hq hS => ?_, ?_, ?_, ?_⟩
  · have h1 := own_in h.row e
    exact hun k h1 (h.off k e) hk
  · rcases hk with hk | ⟨q1, q2⟩
    · have := h.inn k hk; omega
    · have := h.up.size; omega
  · rcases g4 q hq with e | e
    · exact hun q (own_in h.row e) (h.off q e) hS
    · rcases hS with hS | ⟨_, hS⟩
      · have := h.inn q hS; omega
      · omega
  · refine ((h.up.trans (b3.mono h.up.size)).trans (u9.toBelow (Nat.le_trans h.up.size s3) (fun k hk x => by have := (h.inn k x).1; omega))).trans (g3.toBelow (by have := h.up.size; omega) (fun k hk x => by have := own_base h.row x; omega))
  · unfold Rise
    rw [List.pairwise_append]
    refine ⟨h.rise, List.pairwise_singleton _ _, fun a ha b hb => ?_⟩
    rw [List.mem_singleton.1 hb, hk]
    have := (h.out.keys a ha).2
    omega
  · refine ⟨by omega, by rw [List.length_append, List.length_singleton]; omega, fun m hm => ?_⟩
    rcases List.mem_append.1 hm with hm | hm
    · have := hwl.2.2 m hm; omega
    · rw [List.mem_singleton.1 hm]; omega
/-- Some are gone of both; the list is another row. -/
theorem Duo.less {w2 w9 : World} {a4 : Option Addr} {n4 c4 : Nat} {q : Msg → Bool} (h : Duo w0 wr p S last xs am nm cm B) (b2 : Below wr.heap.size wr w2) (hO : OutAt w9 p S last (xs.filter q)) (u9 : Upd S w2 w9)
    (g1 : w2.ownsRow wr.heap.size 30 6 (.slice a4 n4 c4) n4 (mcells (xs.filter q))) : Duo w0 w9 p S last (xs.filter q) a4 n4 c4 (B + 1) := by
  have s2 := b2.size
  have s9 := u9.size
  have ho : Off S a4 n4 c4 := fun k hk hS => by have := own_base g1 hk; have := (h.inn k hS).2; omega
  have hl := List.length_filter_le q xs
  refine ⟨hO, fun k hk => by have := h.inn k hk; omega, ?_, ?_, ho, ?_, h.rise.filter q, ?_⟩
  · exact ownsRow_base_a (ownsRow_upd g1 u9 (fun k hk => ho k hk)) h.up.size
  · have := g1.1; rw [mcells_length] at this; omega
  · exact (h.up.trans (b2.mono h.up.size)).trans (u9.toBelow (Nat.le_trans h.up.size s2) (fun k hk x => by have := (h.inn k x).1; omega))
  · have hwl := h.num
    refine ⟨by omega, by omega, fun m hm => ?_⟩
    have := hwl.2.2 m (List.mem_filter.1 hm).1
    omega
/-- All is said again. -/
theorem Duo.again {w9 w8 : World} {a3 : Option Addr} {n3 c3 : Nat} {now : Int} {S' : Nat → Prop} (h : Duo w0 wr p S last xs am nm cm B) (hO : OutAt w9 p S' last (agLeft now xs)) (hS' : ∀ k, S' k → (S k ∨ wr.heap.size ≤ k) ∧ k < w9.heap.size) (u9 : Upd S wr w9) (b8 : Below w9.heap.size w9 w8)
    (g1 : w8.ownsRow w9.heap.size 30 6 (.slice a3 n3 c3) n3 (mcells (agLeft now xs))) : Duo w0 w8 p S' last (agLeft now xs) a3 n3 c3 (B + 1) := by
  have s9 := u9.size
  have s8 := b8.size
  have h0 := h.up.size
  refine ⟨OutSt.below hO b8, fun k hk => ?_, ownsRow_base_a g1 (by omega), ?_, fun k hk hS => ?_, ?_, agLeft_rise h.rise, ?_⟩
  · obtain ⟨q1, q2⟩ := hS' k hk
    rcases q1 with q1 | q1
    · have := h.inn k q1; omega
    · omega
  · have := g1.1; rw [mcells_length] at this; omega
  · have := own_base g1 hk; have := (hS' k hS).2; omega
  · exact (h.up.trans (u9.toBelow h0 (fun k hk x => by have := (h.inn k x).1; omega))).trans (b8.mono (by omega))
  · have hwl := h.num
    have hl : (agLeft now xs).length ≤ xs.length := by unfold agLeft; rw [List.length_map]; exact List.length_filter_le _ _
    refine ⟨by omega, by omega, fun m hm => ?_⟩
    unfold agLeft at hm
    obtain ⟨y, hy, rfl⟩ := List.mem_map.1 hm
    have := hwl.2.2 y (List.mem_filter.1 hy).1
    split
    · show 0 ≤ y.tries + 1 ∧ y.tries + 1 ≤ _
      omega
    · omega
/-- One of a key. -/
def keyB (a : Int) (m : Msg) : Bool := m.key == a
theorem gone_some {a : Int} {m : Msg} (h : NDK xs) (hl : look xs a = some m) : xs.filter (keyB a) = [m] := by
  obtain ⟨h1, h2⟩ := (look_some h).1 hl
  obtain ⟨A, C, rfl⟩ := List.append_of_mem h1
  have hp : (A ++ m :: C).Perm (m :: (A ++ C)) := List.perm_middle
  obtain ⟨n1, _⟩ := List.pairwise_cons.1 (h.perm hp)
  have e1 : ∀ L : List Msg, (∀ x ∈ L, m.key ≠ x.key) → L.filter (keyB a) = [] := fun L hL => List.filter_eq_nil_iff.2 (fun x hx => by
    have := hL x hx
    simpa [keyB] using fun e => this (h2.trans e.symm))
  rw [List.filter_append, List.filter_cons, e1 A (fun x hx => n1 x (List.mem_append_left _ hx)), e1 C (fun x hx => n1 x (List.mem_append_right _ hx))]
  simp [keyB, h2]
theorem gone_none {a : Int} (hl : look xs a = none) : xs.filter (keyB a) = [] :=
  List.filter_eq_nil_iff.2 (fun x hx => by simpa [keyB] using look_none.1 hl x hx)
theorem wo_filter (xs : List Msg) (a : Int) : wo xs a = xs.filter (fun x => !keyB a x) := rfl
theorem filter_snoc (q : Msg → Bool) (xs : List Msg) (m : Msg) : (xs ++ [m]).filter q = if q m then xs.filter q ++ [m] else xs.filter q := by
  rw [List.filter_append, List.filter_cons]
  cases h : q m <;> simp
end
theorem More.up {S : Nat → Prop} {w w1 w2 : World} (h1 : w.heap.size ≤ w1.heap.size) : ∀ k, More S w1 w2 k → More S w w2 k := by
  rintro k (h | ⟨a, b⟩)
  · exact .inl h
  · exact .inr ⟨by omega, b⟩
theorem put_drew {w3 w9 : World} {p : Nat} {S : Nat → Prop} {last : Int} {xs : List Msg} (h : OutAt w9 p (More S w3 w9) last xs) : OutAt w9.drew p (More S w3 w9.drew) last xs := OutSt.below h (Below.refl _ _).drew
/-- What is read of an Act. -/
theorem oact_all {w : World} {b o : Nat} {x : OSct} (h : ArrAt w b o x.arr) : w.cell? ⟨b, o, none⟩ = some (.int .u8 x.k) ∧ w.cell? ⟨b, o + 1, none⟩ = some (.int .i64 x.A) ∧ w.cell? ⟨b, o + 2, none⟩ = some (.int .i64 x.B) ∧ w.cell? ⟨b, o + 3, none⟩ = some (.int .i64 x.V) ∧ w.cell? ⟨b, o + 4, none⟩ = some (.int .i64 x.D) :=
  ⟨h.cells 0 _ rfl, h.cells 1 _ rfl, h.cells 2 _ rfl, h.cells 3 _ rfl, h.cells 4 _ rfl⟩
/-- .. of the law's own box of it. -/
theorem obox_all {w : World} {b : Nat} {K A B V D : Int} (h : ArrAt w b 0 #[.int .u8 K, .int .i64 A, .int .i64 B, .int .i64 V, .int .i64 D]) : w.cell? ⟨b, 0, none⟩ = some (.int .u8 K) ∧ w.cell? ⟨b, 1, none⟩ = some (.int .i64 A) ∧ w.cell? ⟨b, 2, none⟩ = some (.int .i64 B) ∧ w.cell? ⟨b, 3, none⟩ = some (.int .i64 V) ∧ w.cell? ⟨b, 4, none⟩ = some (.int .i64 D) :=
  ⟨h.cells 0 _ rfl, h.cells 1 _ rfl, h.cells 2 _ rfl, h.cells 3 _ rfl, h.cells 4 _ rfl⟩
end Go.Proofs.Ytcnheikckfhniaa
