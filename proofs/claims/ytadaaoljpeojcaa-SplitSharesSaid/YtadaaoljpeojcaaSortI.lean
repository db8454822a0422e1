/-
  Package split, greatestFirst, whole. Conditions: those of the theorems.
-/
import Derived.Test.YtadaaoljpeojcaaSortH
import Derived.OwnWalk
import Derived.Shelf.Abstract
namespace Go.Proofs.Ytadaaoljpeojcaa
open Go.RowKit Go.Sort
set_option maxRecDepth 100000

theorem made_zeros (n : Nat) : madeCells (Value.int .i64 0).cells (n * 1) = Array.replicate n (.int .i64 0) := by
  apply Array.ext
  · simp [size_madeCells]
  · intro i h1 h2
    simp [madeCells, Value.cells, Nat.mod_one]
theorem make_run (t e : TypeId) (ht : Try.prog.underlying t = some (.slice e)) (hi : (Try.prog.info? e).map (fun i => (i.zero, i.size, i.bytes)) = some (some (.int .i64 0), 1, 8)) (n : Nat) (hn : n ≤ 1000000) (W : World) :
    (Instr.makeSlice t (.int .i64 (n : Int)) (.int .i64 (n : Int))).run Try.prog W = .ok (.slice (some ⟨W.heap.size, 0, none⟩) n n) (W.alloc (.cells (Array.replicate n (.int .i64 0)) e)) := by
  obtain ⟨i, h1, h2, h3, h4⟩ := info_parts hi
  have := run_make (P := Try.prog) W t e i (.int .i64 0) ht h1 h2 .i64 .i64 (n : Int) (n : Int) (by omega) (Int.le_refl _) (by rw [h4]; omega) (by omega)
  rw [Int.toNat_natCast, h3, made_zeros] at this
  exact this

theorem below_putRow {α : Type} [Inhabited α] (enc : α → Value) {B : Nat} {w w' : World} (h : Below B w w') (blk off : Nat) (d : Array α) (hb : B ≤ blk) : Below B w (putRow enc w' blk off d) :=
  ⟨h.os, h.tape, h.output, by rw [size_putRow]; exact h.size, fun k hk => by
    rw [← h.block k hk]
    simp only [putRow, mapBlock, Array.getElem?_modify]
    rw [if_neg (by omega)]⟩

theorem sort_stableFunc {α : Type} [Inhabited α] (v : α → Int) (cf : α → α → Int) (lx : α → α → Bool) (tie : α → α → Prop) (T : Two (less cf) lx tie) (g : Nat) (cb : Array Value) (w0 w : World) (blk off cap sz : Nat) (d0 d : Array α) (S : St v w0 blk off d0 d w)
    (eg : ∀ args w, (callFunc g args).run Try.prog w = .ok (.enter g args) w) (hC : Cmp Try.prog g cb v cf w0 blk off d0)
    (hz : d.size = sz) (hsz : sz ≤ 1000000) (ht : ∀ p q, p < q → q < sz → tie d[p]! d[q]!) :
    Calls Try.prog 28 #[.slice (some ⟨blk, off, none⟩) sz cap, .func (.func g) #[] cb] w fun e w' => e = .returned (.tuple #[]) ∧ Merged v lx w0 blk off 0 sz d0 d w' := by
  have h := sort_stable v cf lx tie T g cb w0 w blk off cap sz d0 d S eg hC hz hsz ht
  clear S hC hz ht T eg
  go_enter Try.func28, Try.ntmps28
  go_wp2_with fail
  refine h.mono ?_
  rintro e w' ⟨rfl, hm⟩
  go_wp2
  go_end0
  exact ⟨rfl, hm⟩

theorem below_drawn' {B : Nat} {w w1 : World} (h : Below B w w1) (n : Nat) : Below B w (w1.drewN n) := ⟨h.os, h.tape, h.output, h.size, h.block⟩
def Greatest (r : Nat → Int) (n : Nat) (w : World) (e : Ending) (w' : World) : Prop :=
  ∃ (blk : Nat) (d : Array (Fin (n + 1))), e = .returned (.slice (some ⟨blk, 0, none⟩) (n + 1) (n + 1)) ∧ w.heap.size ≤ blk ∧ blk < w'.heap.size ∧ Below w.heap.size w w' ∧ Places r n d ∧
    ∀ t, t < n + 1 → w'.cell? ⟨blk, t, none⟩ = some (.int .i64 ((d[t]!).val : Int))

def valF (n : Nat) (x : Fin (n + 1)) : Int := (x.val : Int)
def idI (x : Int) : Value := .int .i64 x

set_option maxHeartbeats 2000000 in
theorem split_greatestFirst (b off n c : Nat) (rs : List Int) (w : World) (hn : rs.length = n + 1) (hm : n + 1 ≤ 1000000) (hb : b < w.heap.size) (hx : ∀ i (h : i < rs.length), w.cell? ⟨b, off + i, none⟩ = some (.int .i64 rs[i])) :
    Calls Try.prog 22 #[.slice (some ⟨b, off, none⟩) (n + 1 : Nat) c] w fun e w' => Greatest (fun i => rs.getD i 0) n w e w' := by
  have hmk := fun W => make_run 47 3 Try.underlying47 (by kernel_rfl) (n + 1) hm W
  obtain ⟨N, hN⟩ : ∃ N, N = n + 1 := ⟨_, rfl⟩
  rw [← hN] at hmk
  rw [← hN]
  have HX : Aside (∀ i (h : i < rs.length), w.cell? ⟨b, off + i, none⟩ = some (.int .i64 rs[i])) := hx
  have HL := Lib.hid hn
  have HN := Lib.hid hN
  have hN0 : 0 < N := by omega
  have hN1 : N ≤ 1000000 := by omega
  clear hx hn hN hm
  go_enter Try.func22, Try.ntmps22
  go_wp2
  -- the worlds: the box, the new row
  obtain ⟨blk, hblk⟩ : ∃ q, q = w.heap.size + 1 := ⟨_, rfl⟩
  have X2 : ∃ w2, w2 = (w.alloc (.cells #[.slice (some ⟨b, off, none⟩) N c] 22)).alloc (.cells (Array.replicate N (.int .i64 0)) 3) := ⟨_, rfl⟩
  obtain ⟨w2, hw2⟩ := X2
  have b2 : Below w.heap.size w w2 := by rw [hw2]; exact ((Below.refl _ _).alloc (Nat.le_refl _) _).alloc (by simp) _
  have z2 : w2.heap.size = blk + 1 := by rw [hw2, hblk]; simp
  have box2 : w2.cell? ⟨w.heap.size, 0, none⟩ = some (.slice (some ⟨b, off, none⟩) N c) := by
    rw [hw2]; simp
  have row2 : Holds idI w2 blk 0 (Array.replicate N (0 : Int)) := by
    intro j hj
    simp only [Array.size_replicate] at hj
    rw [hw2, hblk]
    constructor
    · rw [getElem!_pos _ j (by simpa using hj)]
      simp [idI, hj]
    · simp
  rw [← hblk, ← hw2]
  have B2 : Aside (Below w.heap.size w w2) := b2
  have Z2 := Lib.hid z2
  have HB : Hid (blk = w.heap.size + 1) := hblk
  have BOX := Lib.hid box2
  have ROW : Aside (Holds idI w2 blk 0 (Array.replicate N (0 : Int))) := row2
  clear hmk b2 z2 box2 row2 hw2 hblk
  go_loopw [10] (fun vi wr => ∃ (k : Nat) (dk : Array Int), vi = .int .i64 k ∧ k ≤ N ∧ Hid (dk.size = N) ∧ Aside (∀ t, t < k → dk[t]! = (t : Int)) ∧ Hid (wr = putRow idI w2 blk 0 dk)) (fun vi _ => N - (intOf vi).toNat)
  case atStart => exact ⟨0, Array.replicate N 0, rfl, Nat.zero_le _, by show _ = _; simp, fun t h => absurd h (Nat.not_lt_zero _), (putRow_self idI w2 blk 0 _ ROW.out).symm⟩
  case round =>
    obtain ⟨k, dk, rfl, hk, HK, HD, HW⟩ := hrel
    by_cases hlt : k < N
    · have hlt' : (k : Int) < (N : Int) := by omega
      have hc : wr.cell? ⟨blk, k, none⟩ = some (.int .i64 dk[k]!) := by
        have := cell?_putRow idI w2 blk 0 _ dk ROW.out (by rw [HK.out]; simp) k (by rw [HK.out]; exact hlt)
        rw [Nat.zero_add] at this
        rw [HW.out]; exact this
      have hf : wr.frozen? ⟨blk, k, none⟩ = false := by
        have := (ROW.out k (by simpa using hlt)).2
        rw [Nat.zero_add] at this
        rw [HW.out, frozen?_putRow]; exact this
      go_wp2
      go_roundw
      case rel =>
        refine ⟨k + 1, dk.setIfInBounds k (k : Int), by go_num, hlt, by show _ = _; rw [Array.size_setIfInBounds]; exact HK.out, ?_, ?_⟩
        · show ∀ t, t < k + 1 → _
          intro t ht
          by_cases e : t = k
          · subst e; exact getElem!_set_same _ _ _ (by rw [HK.out]; exact hlt)
          · rw [getElem!_set_other _ _ _ _ e]; exact HD.out t (by omega)
        · show _ = _
          have := putRow_set idI w2 blk 0 dk k (k : Int) (by rw [HK.out]; exact hlt)
          rw [Nat.zero_add] at this
          rw [HW.out]
          exact this
      case measure => simp [intOf]; omega
    · obtain rfl : k = N := by omega
      -- the sort
      have hN := HN.out
      have hs0 := placesF_size n
      have hW3 : Holds (fun x => Value.int .i64 (valF n x)) wr blk 0 (placesF n) := by
        intro j hj
        rw [hs0] at hj
        have e := HD.out j (by omega)
        constructor
        · have := cell?_putRow idI w2 blk 0 _ dk ROW.out (by rw [HK.out]; simp) j (by rw [HK.out]; omega)
          rw [e] at this
          rw [HW.out, this]
          show some (Value.int .i64 (j : Int)) = some (Value.int .i64 ((((placesF n)[j]!).val : Nat) : Int))
          rw [placesF_get n j hj]
        · rw [HW.out, frozen?_putRow]; exact (ROW.out j (by simp; omega)).2
      have S3 : St (valF n) wr blk 0 (placesF n) (placesF n) wr := ⟨hW3, rfl, 0, (putRow_self _ wr blk 0 _ hW3).symm⟩
      have hne : ∀ (p : Addr) (hp : p.block ≠ blk) (d : Array (Fin (n + 1))) (W : World), St (valF n) wr blk 0 (placesF n) d W → W.cell? p = w2.cell? p := fun p hp d W hS => by
        obtain ⟨_, _, m, rfl⟩ := hS
        show (putRow _ wr blk 0 d).cell? p = _
        rw [cell?_putRow_other _ _ _ _ _ _ (.inl hp), HW.out, cell?_putRow_other _ _ _ _ _ _ (.inl hp)]
      have hC : Cmp Try.prog 29 #[.pointer (some ⟨w.heap.size, 0, none⟩)] (valF n) (cmpF (fun i => rs.getD i 0) n) wr blk 0 (placesF n) := by
        intro d W hS x y
        have hbl : blk = w.heap.size + 1 := HB.out
        have hx : ∀ x : Fin (n + 1), W.cell? ⟨b, off + x.val, none⟩ = some (.int .i64 (rs.getD x.val 0)) := fun x => by
          have hl : x.val < rs.length := by rw [HL.out]; exact x.isLt
          rw [hne _ (show b ≠ blk by omega) d W hS, B2.out.cell (p := ⟨b, off + x.val, none⟩) hb, HX.out x.val hl]
          simp [List.getD, hl]
        exact split_less b off k c w.heap.size x.val y.val _ _ W (by rw [hne _ (show w.heap.size ≠ blk by omega) d W hS]; exact BOX.out) (by rw [hN]; exact x.isLt) (by rw [hN]; exact y.isLt) (hx x) (hx y)
      have hcon := sort_stableFunc (valF n) (cmpF (fun i => rs.getD i 0) n) (aheadF (fun i => rs.getD i 0) n) (fun x y => x.val < y.val) (two_ahead _ n) 29 #[.pointer (some ⟨w.heap.size, 0, none⟩)] wr wr blk 0 k k (placesF n) (placesF n) S3
        (enters_of Try.func29 (by kernel_rfl) rfl) hC (by rw [hs0, hN]) hN1 (fun p q h1 h2 => by rw [placesF_get n p (by omega), placesF_get n q (by omega)]; exact h1)
      clear hW3 S3 hne hC hs0 hN
      go_wp2_with fail
      refine hcon.mono ?_
      rintro e w' ⟨rfl, hm⟩
      have HM : Aside (Merged (valF n) (aheadF (fun i => rs.getD i 0) n) wr blk 0 0 k (placesF n) (placesF n) w') := hm
      clear hm hcon
      go_wp2
      go_ret
      obtain ⟨d, h1, h2, h3⟩ := HM.out
      have hN := HN.out
      subst hN
      have hbl : blk = w.heap.size + 1 := HB.out
      have hsz := h3.size
      refine ⟨blk, d, rfl, by omega, ?_, ?_, ⟨by rw [hsz]; exact placesF_size n, h1, h2⟩, fun t ht => ?_⟩
      · obtain ⟨_, _, m, rfl⟩ := h3
        show blk < (putRow _ wr blk 0 d).heap.size
        rw [size_putRow, HW.out, size_putRow, Z2.out]
        omega
      · obtain ⟨_, _, m, rfl⟩ := h3
        have h4 : Below w.heap.size w wr := by rw [HW.out]; exact below_putRow _ B2.out _ _ _ (by omega)
        exact below_drawn' (below_putRow _ h4 blk 0 d (by omega)) m
      · have := h3.cell t (by rw [hsz, placesF_size]; exact ht)
        rw [Nat.zero_add] at this
        exact this
end Go.Proofs.Ytadaaoljpeojcaa
