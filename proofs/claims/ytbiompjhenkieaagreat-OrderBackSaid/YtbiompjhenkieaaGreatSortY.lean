/-
  The library's stable sort, whole: blocks of twenty, then merged. Conditions: those of the theorems. Package split, greatestFirst: places by what is at them, the greatest first, of the same the first ones. Conditions: those of the theorems. Package split, greatestFirst, whole. Conditions: those of the theorems. Shares of a sum, plain: quotients, what they leave, one more for those that leave the most. No program; no conditions but those of each theorem.
-/
import Derived.Test.YtbiompjhenkieaaGreatSortF
import Derived.Test.YtbiompjhenkieaaGreatMoneyX
import Derived.Laws.MakeOwn
import Derived.OwnWalk
import Derived.Shelf.Abstract
namespace Go.Proofs.YtbiompjhenkieaaGreat
open Go.RowKit Go.Sort
set_option maxRecDepth 100000
variable {α : Type} [Inhabited α]

set_option maxHeartbeats 4000000 in
theorem sort_stable (v : α → Int) (cf : α → α → Int) (lx : α → α → Bool) (tie : α → α → Prop) (T : Two (less cf) lx tie) (g : Nat) (cb : Array Value) (w0 w : World) (blk off cap sz : Nat) (d0 d : Array α) (S : St v w0 blk off d0 d w)
    (eg : ∀ args w, (callFunc g args).run Tryz.prog w = .ok (.enter g args) w) (hC : Cmp Tryz.prog g cb v cf w0 blk off d0)
    (hz : d.size = sz) (hsz : sz ≤ 1000000) (ht : ∀ p q, p < q → q < sz → tie d[p]! d[q]!) :
    Calls Tryz.prog 114 #[.slice (some ⟨blk, off, none⟩) sz cap, .int .i64 sz, .func (.func g) #[] cb] w fun e w' => e = .returned (.tuple #[]) ∧ Merged v lx w0 blk off 0 sz d0 d w' := by
  have S0 : Aside (St v w0 blk off d0 d w) := S
  have HC : Aside (Cmp Tryz.prog g cb v cf w0 blk off d0) := hC
  have HZ := Lib.hid hz
  have F0 : Aside (First lx tie 20 sz 0 d d) := First.start 20 sz d ht
  have IH : Aside (MergeAll Tryz.prog 118 v lx tie g cb w0 blk off cap sz d0 (sz + 1)) := sort_merge v cf lx tie T g cb w0 blk off cap sz d0 eg hC (by omega) (sz + 1)
  clear S hz hC ht
  go_enter Tryz.func114, Tryz.ntmps114
  go_wp2
  go_loopw [7, 8] (fun va vb wr => ∃ (a b : Nat) (dk : Array α), va = .int .i64 a ∧ vb = .int .i64 b ∧ a ≤ sz ∧ a + 20 ≤ b ∧ b ≤ a + 20 ∧ Hid (dk.size = sz) ∧ Aside (First lx tie 20 sz a d dk) ∧ Aside (St v w0 blk off d0 dk wr)) (fun va _ _ => sz - (intOf va).toNat)
  case atStart => exact ⟨0, 20, d, rfl, rfl, Nat.zero_le _, Nat.le_refl _, Nat.le_refl _, HZ.out, F0.out, S0.out⟩
  case round =>
    clear S0 F0
    obtain ⟨a, b, dk, rfl, rfl, ha, hab, hba, HK, FK, SK⟩ := hrel
    by_cases hlt : b ≤ sz
    · have hlt' : (b : Int) ≤ (sz : Int) := by omega
      go_wp2_with fail
      refine (sort_insert v cf g cb w0 wr blk off cap a b sz d0 dk SK.out eg HC.out HK.out (by omega) hlt (by omega)).mono ?_
      rintro e w' ⟨rfl, hi⟩
      have SI : Aside (St v w0 blk off d0 (insertionSort (less cf) dk a b) w') := hi
      obtain ⟨hp, hs⟩ := ins_lex T (show a ≤ b by omega) (by have := HK.out; omega) (FK.out.asc hlt)
      have HS : Hid ((insertionSort (less cf) dk a b).size = sz) := hp.1.trans HK.out
      have FN : Aside (First lx tie 20 sz b d (insertionSort (less cf) dk a b)) := by
        have e := FK.out.next (by have := HZ.out; omega) (by omega) (d' := insertionSort (less cf) dk a b) (by rw [show a + 20 = b by omega]; exact hp) (by rw [show a + 20 = b by omega]; exact hs)
        rw [show a + 20 = b by omega] at e
        exact e
      clear hi hp hs SK FK
      go_wp2
      go_roundw
      case rel => exact ⟨b, b + 20, _, rfl, by go_num, hlt, Nat.le_refl _, Nat.le_refl _, HS.out, FN.out, SI.out⟩
      case measure => simp [intOf]; omega
    · have hlt' : ¬ (b : Int) ≤ (sz : Int) := by omega
      go_wp2_with fail
      refine (sort_insert v cf g cb w0 wr blk off cap a sz sz d0 dk SK.out eg HC.out HK.out ha (Nat.le_refl _) (by omega)).mono ?_
      rintro e w' ⟨rfl, hi⟩
      have SI : Aside (St v w0 blk off d0 (insertionSort (less cf) dk a sz) w') := hi
      obtain ⟨hp, hs⟩ := ins_lex T ha (by have := HK.out; omega) (FK.out.asc (Nat.le_refl _))
      have HS : Hid ((insertionSort (less cf) dk a sz).size = sz) := hp.1.trans HK.out
      have FN : Aside (Lev lx tie 20 sz d (insertionSort (less cf) dk a sz)) := FK.out.last (by have := HZ.out; omega) ha (by omega) hp hs
      clear hi hp hs SK FK
      generalize insertionSort (less cf) dk a sz = d1 at SI HS FN
      go_wp2
      go_loopw [6] (fun vk wr => ∃ (k : Nat) (dk : Array α), vk = .int .i64 k ∧ 20 ≤ k ∧ k ≤ 2 * sz + 20 ∧ Hid (dk.size = sz) ∧ Aside (Lev lx tie k sz d dk) ∧ Aside (St v w0 blk off d0 dk wr)) (fun vk _ => 2 * sz + 20 - (intOf vk).toNat)
      case atStart => exact ⟨20, d1, rfl, Nat.le_refl _, by omega, HS.out, FN.out, SI.out⟩
      case round =>
        clear SI FN HS
        obtain ⟨k, dk, rfl, hk, hk2, HK2, LK, SK⟩ := hrel
        by_cases hlt2 : k < sz
        · have hlt3 : (k : Int) < (sz : Int) := by omega
          go_wp2
          go_loopw [7, 8] (fun va vb wr => ∃ (a b : Nat) (dk : Array α), va = .int .i64 a ∧ vb = .int .i64 b ∧ a ≤ sz ∧ a + 2 * k ≤ b ∧ b ≤ a + 2 * k ∧ Hid (dk.size = sz) ∧ Aside (Half lx tie k sz a d dk) ∧ Aside (St v w0 blk off d0 dk wr)) (fun va _ _ => sz - (intOf va).toNat)
          case atStart => exact ⟨0, 2 * k, dk, rfl, by go_num, Nat.zero_le _, by omega, by omega, HK2.out, LK.out.half, SK.out⟩
          case round =>
            clear SK LK HK2
            obtain ⟨a2, b2, dj, rfl, rfl, ha2, hab2, hba2, HJ, FJ, SJ⟩ := hrel
            have EA := Lib.hid (show (a2 : Int) + (k : Int) = ((a2 + k : Nat) : Int) by omega)
            by_cases hlt4 : b2 ≤ sz
            · have hlt5 : (b2 : Int) ≤ (sz : Int) := by omega
              go_wp2_with fail
              rw [EA.out]
              refine (IH.out a2 (a2 + k) b2 dj wr (by omega) (by omega) (by omega) hlt4 HJ.out SJ.out (FJ.out.rowA (by omega)) (FJ.out.rowB (by omega) hlt4) (FJ.out.cutA.row hlt4)).mono ?_
              rintro e w' ⟨rfl, hi⟩
              obtain ⟨dn, hp, hs, hw⟩ := hi
              have SI : Aside (St v w0 blk off d0 dn w') := hw
              have HS : Hid (dn.size = sz) := hp.1.trans HJ.out
              have FN : Aside (Half lx tie k sz b2 d dn) := by
                have e := FJ.out.next (by have := HZ.out; omega) (by omega) (d' := dn) (by rw [show a2 + 2 * k = b2 by omega]; exact hp) (by rw [show a2 + 2 * k = b2 by omega]; exact hs)
                rw [show a2 + 2 * k = b2 by omega] at e
                exact e
              clear hw hp hs SJ FJ EA
              go_wp2
              go_roundw
              case rel => exact ⟨b2, b2 + 2 * k, dn, rfl, by go_num, hlt4, by omega, by omega, HS.out, FN.out, SI.out⟩
              case measure => simp [intOf]; omega
            · have hlt5 : ¬ (b2 : Int) ≤ (sz : Int) := by omega
              by_cases hm : a2 + k < sz
              · have hm' : (a2 : Int) + (k : Int) < (sz : Int) := by omega
                go_wp2_with fail
                rw [EA.out]
                refine (IH.out a2 (a2 + k) sz dj wr (by omega) (by omega) hm (Nat.le_refl _) HJ.out SJ.out (FJ.out.rowA (by omega)) (FJ.out.rowB (by omega) (Nat.le_refl _)) (FJ.out.cutA.row (Nat.le_refl _))).mono ?_
                rintro e w' ⟨rfl, hi⟩
                obtain ⟨dn, hp, hs, hw⟩ := hi
                have SI : Aside (St v w0 blk off d0 dn w') := hw
                have HS : Hid (dn.size = sz) := hp.1.trans HJ.out
                have FN : Aside (Lev lx tie (2 * k) sz d dn) := FJ.out.last (by have := HZ.out; omega) ha2 (by omega) hp hs
                clear hw hp hs SJ FJ EA
                go_wp2
                go_roundw
                case rel => exact ⟨2 * k, dn, by go_num, by omega, by omega, HS.out, FN.out, SI.out⟩
                case measure => simp [intOf]; omega
              · have hm' : ¬ (a2 : Int) + (k : Int) < (sz : Int) := by omega
                have FN : Aside (Lev lx tie (2 * k) sz d dj) := FJ.out.alone (by have := HZ.out; omega) ha2 (by omega) (by omega)
                clear FJ EA
                go_wp2
                go_roundw
                case rel => exact ⟨2 * k, dj, by go_num, by omega, by omega, HJ.out, FN.out, SJ.out⟩
                case measure => simp [intOf]; omega
        · have hlt3 : ¬ (k : Int) < (sz : Int) := by omega
          go_wp2
          go_end0
          exact ⟨rfl, dk, LK.out.perm, LK.out.sorted (by omega), SK.out⟩
end Go.Proofs.YtbiompjhenkieaaGreat

namespace Go.Proofs.YtbiompjhenkieaaGreat
open Go.RowKit Go.Sort
set_option maxRecDepth 100000

def cmpI (x y : Int) : Int := if x < y then -1 else if y < x then 1 else 0
theorem cmpI_less (x y : Int) : decide (cmpI x y < 0) = decide (x < y) := by
  unfold cmpI
  by_cases h : x < y
  · simp [h]
  · by_cases h2 : y < x <;> simp [h, h2]

theorem cmp_nan (x : Int) (w : World) : Calls Tryz.prog 115 #[.int .i64 x] w fun e w' => e = .returned (.bool false) ∧ w = w' := by
  go_enter Tryz.func115, Tryz.ntmps115
  go_wp2
  go_ret
  exact ⟨rfl, rfl⟩

theorem cmp_compare (x y : Int) (w : World) : Calls Tryz.prog 112 #[.int .i64 x, .int .i64 y] w fun e w' => e = .returned (.int .i64 (cmpI x y)) ∧ w = w' := by
  by_cases h : x < y
  · rw [show cmpI x y = -1 from by simp [cmpI, h]]
    go_enter Tryz.func112, Tryz.ntmps112
    go_wp2_with fail
    refine (cmp_nan x w).mono ?_
    rintro e w1 ⟨rfl, rfl⟩
    go_wp2_with fail
    refine (cmp_nan y w).mono ?_
    rintro e w1 ⟨rfl, rfl⟩
    go_wp2
    go_ret
    exact ⟨rfl, rfl⟩
  · by_cases h2 : y < x
    · rw [show cmpI x y = 1 from by simp [cmpI, h, h2]]
      go_enter Tryz.func112, Tryz.ntmps112
      go_wp2_with fail
      refine (cmp_nan x w).mono ?_
      rintro e w1 ⟨rfl, rfl⟩
      go_wp2_with fail
      refine (cmp_nan y w).mono ?_
      rintro e w1 ⟨rfl, rfl⟩
      go_wp2
      go_ret
      exact ⟨rfl, rfl⟩
    · rw [show cmpI x y = 0 from by simp [cmpI, h, h2]]
      go_enter Tryz.func112, Tryz.ntmps112
      go_wp2_with fail
      refine (cmp_nan x w).mono ?_
      rintro e w1 ⟨rfl, rfl⟩
      go_wp2_with fail
      refine (cmp_nan y w).mono ?_
      rintro e w1 ⟨rfl, rfl⟩
      go_wp2
      go_ret
      exact ⟨rfl, rfl⟩

theorem split_less (b off n c B i j : Nat) (x y : Int) (w : World) (hB : w.cell? ⟨B, 0, none⟩ = some (.slice (some ⟨b, off, none⟩) n c)) (hi : i < n) (hj : j < n)
    (hx : w.cell? ⟨b, off + i, none⟩ = some (.int .i64 x)) (hy : w.cell? ⟨b, off + j, none⟩ = some (.int .i64 y)) :
    Calls Tryz.prog 111 #[.int .i64 i, .int .i64 j, .pointer (some ⟨B, 0, none⟩)] w fun e w' => e = .returned (.int .i64 (cmpI y x)) ∧ ∃ q, w' = w.drewN q := by
  have hi' : (i : Int) < (n : Int) := by omega
  have hj' : (j : Int) < (n : Int) := by omega
  go_enter Tryz.func111, Tryz.ntmps111
  go_wp2
  go_quiet (refine Calls.quiet_of_same ((cmp_compare y x _).mono fun _ _ h => ⟨h.1, h.2.symm⟩))
  go_wp2
  go_ret
  exact ⟨rfl, nq, rfl⟩

/-! ### The order of places -/
/-- The greater one first; of the same the first one. -/
def ahead (r : Nat → Int) (i j : Nat) : Bool := decide (r j < r i ∨ (r i = r j ∧ i < j))
def aheadF (r : Nat → Int) (n : Nat) (x y : Fin (n + 1)) : Bool := ahead r x.val y.val
def cmpF (r : Nat → Int) (n : Nat) (x y : Fin (n + 1)) : Int := cmpI (r y.val) (r x.val)
theorem two_ahead (r : Nat → Int) (n : Nat) : Two (less (cmpF r n)) (aheadF r n) (fun x y => x.val < y.val) where
  swo :=
    { irrefl := fun x => by simp [aheadF, ahead]
      trans := fun x y z h1 h2 => by simp only [aheadF, ahead, decide_eq_true_eq] at *; omega
      ntrans := fun x y z h1 h2 => by simp only [aheadF, ahead, decide_eq_false_iff_not] at *; omega }
  late := fun x y h => by
    unfold less cmpF aheadF ahead
    rw [cmpI_less]
    congr 1
    simp only [eq_iff_iff]
    omega

def placesF (n : Nat) : Array (Fin (n + 1)) := Array.ofFn id
theorem placesF_size (n : Nat) : (placesF n).size = n + 1 := by simp [placesF]
theorem placesF_get (n i : Nat) (h : i < n + 1) : ((placesF n)[i]!).val = i := by
  rw [getElem!_pos (placesF n) i (by rw [placesF_size]; exact h)]
  simp [placesF]

/-- The places 0 to n, those at which there is more first. -/
structure Places (r : Nat → Int) (n : Nat) (d : Array (Fin (n + 1))) : Prop where
  size : d.size = n + 1
  perm : PermIn 0 (n + 1) (placesF n) d
  sorted : SortedIn (aheadF r n) 0 (n + 1) d
end Go.Proofs.YtbiompjhenkieaaGreat

namespace Go.Proofs.YtbiompjhenkieaaGreat
open Go.RowKit Go.Sort
set_option maxRecDepth 100000

theorem made_zeros (n : Nat) : madeCells (Value.int .i64 0).cells (n * 1) = Array.replicate n (.int .i64 0) := by
  apply Array.ext
  · simp [size_madeCells]
  · intro i h1 h2
    simp [madeCells, Value.cells, Nat.mod_one]
theorem make_run (t e : TypeId) (ht : Tryz.prog.underlying t = some (.slice e)) (hi : (Tryz.prog.info? e).map (fun i => (i.zero, i.size, i.bytes)) = some (some (.int .i64 0), 1, 8)) (n : Nat) (hn : n ≤ 1000000) (W : World) :
    (Instr.makeSlice t (.int .i64 (n : Int)) (.int .i64 (n : Int))).run Tryz.prog W = .ok (.slice (some ⟨W.heap.size, 0, none⟩) n n) (W.alloc (.cells (Array.replicate n (.int .i64 0)) e)) := by
  obtain ⟨i, h1, h2, h3, h4⟩ := info_parts hi
  have := run_make (P := Tryz.prog) W t e i (.int .i64 0) ht h1 h2 .i64 .i64 (n : Int) (n : Int) (by omega) (Int.le_refl _) (by rw [h4]; omega) (by omega)
  rw [Int.toNat_natCast, h3, made_zeros] at this
  exact this

theorem below_putRow {α : Type} [Inhabited α] (enc : α → Value) {B : Nat} {w w' : World} (h : Below B w w') (blk off : Nat) (d : Array α) (hb : B ≤ blk) : Below B w (putRow enc w' blk off d) :=
  ⟨h.os, h.tape, h.output, by rw [size_putRow]; exact h.size, fun k hk => by
    rw [← h.block k hk]
    simp only [putRow, mapBlock, Array.getElem?_modify]
    rw [if_neg (by omega)]⟩

theorem sort_stableFunc {α : Type} [Inhabited α] (v : α → Int) (cf : α → α → Int) (lx : α → α → Bool) (tie : α → α → Prop) (T : Two (less cf) lx tie) (g : Nat) (cb : Array Value) (w0 w : World) (blk off cap sz : Nat) (d0 d : Array α) (S : St v w0 blk off d0 d w)
    (eg : ∀ args w, (callFunc g args).run Tryz.prog w = .ok (.enter g args) w) (hC : Cmp Tryz.prog g cb v cf w0 blk off d0)
    (hz : d.size = sz) (hsz : sz ≤ 1000000) (ht : ∀ p q, p < q → q < sz → tie d[p]! d[q]!) :
    Calls Tryz.prog 110 #[.slice (some ⟨blk, off, none⟩) sz cap, .func (.func g) #[] cb] w fun e w' => e = .returned (.tuple #[]) ∧ Merged v lx w0 blk off 0 sz d0 d w' := by
  have h := sort_stable v cf lx tie T g cb w0 w blk off cap sz d0 d S eg hC hz hsz ht
  clear S hC hz ht T eg
  go_enter Tryz.func110, Tryz.ntmps110
  go_wp2_with fail
  refine h.mono ?_
  rintro e w' ⟨rfl, hm⟩
  go_wp2
  go_end0
  exact ⟨rfl, hm⟩

theorem below_drawn' {B : Nat} {w w1 : World} (h : Below B w w1) (n : Nat) : Below B w (w1.drewN n) := ⟨h.os, h.tape, h.output, h.size, h.block⟩
def Greatest (r : Nat → Int) (n : Nat) (w : World) (e : Ending) (w' : World) : Prop :=
  ∃ (blk : Nat) (d : Array (Fin (n + 1))), e = .returned (.slice (some ⟨blk, 0, none⟩) (n + 1) (n + 1)) ∧ w.heap.size ≤ blk ∧ blk < w'.heap.size ∧ Below w.heap.size w w' ∧ Places r n d ∧
    ∀ t, t < n + 1 → w'.cell? ⟨blk, t, none⟩ = some (.int .i64 ((d[t]!).val : Int))

def valF (n : Nat) (x : Fin (n + 1)) : Int := (x.val : Int)
def idI (x : Int) : Value := .int .i64 x

set_option maxHeartbeats 2000000 in
theorem split_greatestFirst (b off n c : Nat) (rs : List Int) (w : World) (hn : rs.length = n + 1) (hm : n + 1 ≤ 1000000) (hb : b < w.heap.size) (hx : ∀ i (h : i < rs.length), w.cell? ⟨b, off + i, none⟩ = some (.int .i64 rs[i])) :
    Calls Tryz.prog 107 #[.slice (some ⟨b, off, none⟩) (n + 1 : Nat) c] w fun e w' => Greatest (fun i => rs.getD i 0) n w e w' := by
  have hmk := fun W => make_run 129 3 Tryz.underlying129 (by kernel_rfl) (n + 1) hm W
  obtain ⟨N, hN⟩ : ∃ N, N = n + 1 := ⟨_, rfl⟩
  rw [← hN] at hmk
  rw [← hN]
  have HX : Aside (∀ i (h : i < rs.length), w.cell? ⟨b, off + i, none⟩ = some (.int .i64 rs[i])) := hx
  have HL := Lib.hid hn
  have HN := Lib.hid hN
  have hN0 : 0 < N := by omega
  have hN1 : N ≤ 1000000 := by omega
  clear hx hn hN hm
  go_enter Tryz.func107, Tryz.ntmps107
  go_wp2
  -- the worlds: the box, the new row
  obtain ⟨blk, hblk⟩ : ∃ q, q = w.heap.size + 1 := ⟨_, rfl⟩
  have X2 : ∃ w2, w2 = (w.alloc (.cells #[.slice (some ⟨b, off, none⟩) N c] 97)).alloc (.cells (Array.replicate N (.int .i64 0)) 3) := ⟨_, rfl⟩
  obtain ⟨w2, hw2⟩ := X2
  have b2 : Below w.heap.size w w2 := by rw [hw2]; exact ((Below.refl _ _).alloc (Nat.le_refl _) _).alloc (by simp) _
  have z2 : w2.heap.size = blk + 1 := by rw [hw2, hblk]; simp
  have box2 : w2.cell? ⟨w.heap.size, 0, none⟩ = some (.slice (some ⟨b, off, none⟩) N c) := by
    rw [hw2]; simp
  have row2 : Holds idI w2 blk 0 (Array.replicate N (0 : Int)) := by
    intro j hj
    simp only [Array.size_replicate] at hj
    rw [hw2, hblk]
    constructor
    · rw [getElem!_pos _ j (by simpa using hj)]
      simp [idI, hj]
    · simp
  rw [← hblk, ← hw2]
  have B2 : Aside (Below w.heap.size w w2) := b2
  have Z2 := Lib.hid z2
  have HB : Hid (blk = w.heap.size + 1) := hblk
  have BOX := Lib.hid box2
  have ROW : Aside (Holds idI w2 blk 0 (Array.replicate N (0 : Int))) := row2
  clear hmk b2 z2 box2 row2 hw2 hblk
  go_loopw [10] (fun vi wr => ∃ (k : Nat) (dk : Array Int), vi = .int .i64 k ∧ k ≤ N ∧ Hid (dk.size = N) ∧ Aside (∀ t, t < k → dk[t]! = (t : Int)) ∧ Hid (wr = putRow idI w2 blk 0 dk)) (fun vi _ => N - (intOf vi).toNat)
  case atStart => exact ⟨0, Array.replicate N 0, rfl, Nat.zero_le _, by show _ = _; simp, fun t h => absurd h (Nat.not_lt_zero _), (putRow_self idI w2 blk 0 _ ROW.out).symm⟩
  case round =>
    obtain ⟨k, dk, rfl, hk, HK, HD, HW⟩ := hrel
    by_cases hlt : k < N
    · have hlt' : (k : Int) < (N : Int) := by omega
      have hc : wr.cell? ⟨blk, k, none⟩ = some (.int .i64 dk[k]!) := by
        have := cell?_putRow idI w2 blk 0 _ dk ROW.out (by rw [HK.out]; simp) k (by rw [HK.out]; exact hlt)
        rw [Nat.zero_add] at this
        rw [HW.out]; exact this
      have hf : wr.frozen? ⟨blk, k, none⟩ = false := by
        have := (ROW.out k (by simpa using hlt)).2
        rw [Nat.zero_add] at this
        rw [HW.out, frozen?_putRow]; exact this
      go_wp2
      go_roundw
      case rel =>
        refine ⟨k + 1, dk.setIfInBounds k (k : Int), by go_num, hlt, by show _ = _; rw [Array.size_setIfInBounds]; exact HK.out, ?_, ?_⟩
        · show ∀ t, t < k + 1 → _
          intro t ht
          by_cases e : t = k
          · subst e; exact getElem!_set_same _ _ _ (by rw [HK.out]; exact hlt)
          · rw [getElem!_set_other _ _ _ _ e]; exact HD.out t (by omega)
        · show _ = _
          have := putRow_set idI w2 blk 0 dk k (k : Int) (by rw [HK.out]; exact hlt)
          rw [Nat.zero_add] at this
          rw [HW.out]
          exact this
      case measure => simp [intOf]; omega
    · obtain rfl : k = N := by omega
      -- the sort
      have hN := HN.out
      have hs0 := placesF_size n
      have hW3 : Holds (fun x => Value.int .i64 (valF n x)) wr blk 0 (placesF n) := by
        intro j hj
        rw [hs0] at hj
        have e := HD.out j (by omega)
        constructor
        · have := cell?_putRow idI w2 blk 0 _ dk ROW.out (by rw [HK.out]; simp) j (by rw [HK.out]; omega)
          rw [e] at this
          rw [HW.out, this]
          show some (Value.int .i64 (j : Int)) = some (Value.int .i64 ((((placesF n)[j]!).val : Nat) : Int))
          rw [placesF_get n j hj]
        · rw [HW.out, frozen?_putRow]; exact (ROW.out j (by simp; omega)).2
      have S3 : St (valF n) wr blk 0 (placesF n) (placesF n) wr := ⟨hW3, rfl, 0, (putRow_self _ wr blk 0 _ hW3).symm⟩
      have hne : ∀ (p : Addr) (hp : p.block ≠ blk) (d : Array (Fin (n + 1))) (W : World), St (valF n) wr blk 0 (placesF n) d W → W.cell? p = w2.cell? p := fun p hp d W hS => by
        obtain ⟨_, _, m, rfl⟩ := hS
        show (putRow _ wr blk 0 d).cell? p = _
        rw [cell?_putRow_other _ _ _ _ _ _ (.inl hp), HW.out, cell?_putRow_other _ _ _ _ _ _ (.inl hp)]
      have hC : Cmp Tryz.prog 111 #[.pointer (some ⟨w.heap.size, 0, none⟩)] (valF n) (cmpF (fun i => rs.getD i 0) n) wr blk 0 (placesF n) := by
        intro d W hS x y
        have hbl : blk = w.heap.size + 1 := HB.out
        have hx : ∀ x : Fin (n + 1), W.cell? ⟨b, off + x.val, none⟩ = some (.int .i64 (rs.getD x.val 0)) := fun x => by
          have hl : x.val < rs.length := by rw [HL.out]; exact x.isLt
          rw [hne _ (show b ≠ blk by omega) d W hS, B2.out.cell (p := ⟨b, off + x.val, none⟩) hb, HX.out x.val hl]
          simp [List.getD, hl]
        exact split_less b off k c w.heap.size x.val y.val _ _ W (by rw [hne _ (show w.heap.size ≠ blk by omega) d W hS]; exact BOX.out) (by rw [hN]; exact x.isLt) (by rw [hN]; exact y.isLt) (hx x) (hx y)
      have hcon := sort_stableFunc (valF n) (cmpF (fun i => rs.getD i 0) n) (aheadF (fun i => rs.getD i 0) n) (fun x y => x.val < y.val) (two_ahead _ n) 111 #[.pointer (some ⟨w.heap.size, 0, none⟩)] wr wr blk 0 k k (placesF n) (placesF n) S3
        (enters_of Tryz.func111 (by kernel_rfl) rfl) hC (by rw [hs0, hN]) hN1 (fun p q h1 h2 => by rw [placesF_get n p (by omega), placesF_get n q (by omega)]; exact h1)
      clear hW3 S3 hne hC hs0 hN
      go_wp2_with fail
      refine hcon.mono ?_
      rintro e w' ⟨rfl, hm⟩
      have HM : Aside (Merged (valF n) (aheadF (fun i => rs.getD i 0) n) wr blk 0 0 k (placesF n) (placesF n) w') := hm
      clear hm hcon
      go_wp2
      go_ret
      obtain ⟨d, h1, h2, h3⟩ := HM.out
      have hN := HN.out
      subst hN
      have hbl : blk = w.heap.size + 1 := HB.out
      have hsz := h3.size
      refine ⟨blk, d, rfl, by omega, ?_, ?_, ⟨by rw [hsz]; exact placesF_size n, h1, h2⟩, fun t ht => ?_⟩
      · obtain ⟨_, _, m, rfl⟩ := h3
        show blk < (putRow _ wr blk 0 d).heap.size
        rw [size_putRow, HW.out, size_putRow, Z2.out]
        omega
      · obtain ⟨_, _, m, rfl⟩ := h3
        have h4 : Below w.heap.size w wr := by rw [HW.out]; exact below_putRow _ B2.out _ _ _ (by omega)
        exact below_drawn' (below_putRow _ h4 blk 0 d (by omega)) m
      · have := h3.cell t (by rw [hsz, placesF_size]; exact ht)
        rw [Nat.zero_add] at this
        exact this
end Go.Proofs.YtbiompjhenkieaaGreat

namespace Go.Proofs.YtbiompjhenkieaaGreat
open Go.Sort

/-- The first n of f, added up. -/
def sumTo (f : Nat → Int) : Nat → Int
  | 0 => 0
  | n + 1 => sumTo f n + f n
theorem sumTo_congr {f g : Nat → Int} : ∀ n, (∀ t, t < n → f t = g t) → sumTo f n = sumTo g n
  | 0, _ => rfl
  | n + 1, h => by rw [sumTo, sumTo, sumTo_congr n (fun t ht => h t (by omega)), h n (by omega)]
theorem sumTo_add (f g : Nat → Int) : ∀ n, sumTo (fun t => f t + g t) n = sumTo f n + sumTo g n
  | 0 => rfl
  | n + 1 => by rw [sumTo, sumTo, sumTo, sumTo_add f g n]; omega
theorem sumTo_mul (f : Nat → Int) (a : Int) : ∀ n, sumTo (fun t => f t * a) n = sumTo f n * a
  | 0 => by simp [sumTo]
  | n + 1 => by rw [sumTo, sumTo, sumTo_mul f a n, Int.add_mul]
theorem sumTo_le {f : Nat → Int} {b : Int} : ∀ n, (∀ t, t < n → f t ≤ b) → sumTo f n ≤ n * b
  | 0, _ => by simp [sumTo]
  | n + 1, h => by
    have h1 := sumTo_le n (fun t ht => h t (by omega))
    have h2 := h n (by omega)
    rw [sumTo, Int.natCast_add, Int.add_mul]
    simp only [Int.natCast_one, Int.one_mul]
    omega
theorem sumTo_nonneg {f : Nat → Int} : ∀ n, (∀ t, t < n → 0 ≤ f t) → 0 ≤ sumTo f n
  | 0, _ => Int.le_refl _
  | n + 1, h => by have h1 := sumTo_nonneg n (fun t ht => h t (by omega)); have h2 := h n (by omega); rw [sumTo]; omega
theorem sumTo_mono {f : Nat → Int} (n : Nat) (h : ∀ t, t < n → 0 ≤ f t) : ∀ k, k ≤ n → sumTo f k ≤ sumTo f n := by
  induction n with
  | zero =>
    intro k hk
    obtain rfl : k = 0 := by omega
    exact Int.le_refl _
  | succ n ih =>
    intro k hk
    by_cases e : k = n + 1
    · subst e; exact Int.le_refl _
    · have h1 := ih (fun t ht => h t (by omega)) k (by omega)
      have h2 := h n (by omega)
      rw [sumTo]; omega

/-! ### Who is among the first L -/
theorem countP_less {β : Type} (p q : β → Bool) : ∀ (l : List β), (∀ x ∈ l, p x = true → q x = true) → (∃ x ∈ l, q x = true ∧ p x = false) → l.countP p < l.countP q
  | [], _, ⟨x, hx, _⟩ => by cases hx
  | y :: l, h, ⟨x, hx, h1, h2⟩ => by
    have hl : l.countP p ≤ l.countP q := List.countP_mono_left (fun z hz hp => h z (List.mem_cons_of_mem _ hz) hp)
    rw [List.countP_cons, List.countP_cons]
    rcases List.mem_cons.1 hx with rfl | hx
    · simp only [h1, h2, if_true, Bool.false_eq_true, if_false]; omega
    · have := countP_less p q l (fun z hz => h z (List.mem_cons_of_mem _ hz)) ⟨x, hx, h1, h2⟩
      have hy := h y (List.mem_cons_self ..)
      cases hp : p y with
      | true => simp only [hy hp, if_true]; omega
      | false => simp only [Bool.false_eq_true, if_false]; split <;> omega

/-- How many come ahead of k. -/
def rank (r : Nat → Int) (n k : Nat) : Nat := (List.range n).countP fun j => ahead r j k
theorem ahead_irrefl (r : Nat → Int) (i : Nat) : ahead r i i = false := by simp [ahead]
theorem ahead_total {r : Nat → Int} {i j : Nat} (h : i ≠ j) (h2 : ahead r j i = false) : ahead r i j = true := by
  simp only [ahead, decide_eq_false_iff_not, decide_eq_true_eq] at *
  omega
theorem ahead_asymm {r : Nat → Int} {i j : Nat} (h : ahead r i j = true) : ahead r j i = false := by
  simp only [ahead, decide_eq_false_iff_not, decide_eq_true_eq] at *
  omega
/-- As many as L, none of whom comes behind one that isn't among them: those of rank below L. -/
theorem among {r : Nat → Int} {n L : Nat} {G : Nat → Bool} (hc : (List.range n).countP G = L) (hu : ∀ k j, k < n → j < n → G k = true → G j = false → ahead r k j = true) (k : Nat) (hk : k < n) : G k = decide (rank r n k < L) := by
  cases hg : G k with
  | true =>
    refine (decide_eq_true ?_).symm
    rw [← hc]
    refine countP_less _ _ _ (fun j hj ha => ?_) ⟨k, List.mem_range.2 hk, hg, ahead_irrefl r k⟩
    cases hj2 : G j with
    | true => rfl
    | false =>
      have := hu k j hk (List.mem_range.1 hj) hg hj2
      rw [ahead_asymm this] at ha
      cases ha
  | false =>
    refine (decide_eq_false ?_).symm
    rw [← hc, Nat.not_lt]
    exact List.countP_mono_left fun j hj hG => hu j k (List.mem_range.1 hj) hk hG hg

/-! ### The first L of a list in order -/
/-- One more for those among the first t. -/
def one (ps : List Nat) (t k : Nat) : Int := if k ∈ ps.take t then 1 else 0
theorem one_zero (ps : List Nat) (k : Nat) : one ps 0 k = 0 := by simp [one]
theorem one_next {ps : List Nat} {t : Nat} (ht : t < ps.length) (hn : ps.Nodup) (k : Nat) : one ps (t + 1) k = if k = ps[t] then one ps t k + 1 else one ps t k := by
  unfold one
  rw [List.take_succ_eq_append_getElem ht]
  have hnot : ps[t] ∉ ps.take t := by
    have h := hn
    rw [← List.take_append_drop t ps, List.nodup_append] at h
    intro hm
    have hd : ps[t] ∈ ps.drop t := by rw [List.drop_eq_getElem_cons ht]; exact List.mem_cons_self ..
    exact h.2.2 _ hm _ hd rfl
  by_cases h : k = ps[t]
  · rw [if_pos (List.mem_append.2 (.inr (List.mem_singleton.2 h))), if_pos h, h, if_neg hnot]; rfl
  · rw [if_neg h]
    by_cases h2 : k ∈ ps.take t
    · rw [if_pos (List.mem_append.2 (.inl h2)), if_pos h2]
    · rw [if_neg (fun h0 => (List.mem_append.1 h0).elim h2 (fun h3 => h (List.mem_singleton.1 h3))), if_neg h2]
theorem one_bounds (ps : List Nat) (t k : Nat) : 0 ≤ one ps t k ∧ one ps t k ≤ 1 := by unfold one; split <;> omega
theorem count_first {ps : List Nat} {n L : Nat} (hp : ps.Perm (List.range n)) (hL : L ≤ n) : (List.range n).countP (fun k => decide (k ∈ ps.take L)) = L := by
  have hn : ps.Nodup := hp.nodup_iff.2 (List.nodup_range)
  have hlen : ps.length = n := by rw [hp.length_eq, List.length_range]
  rw [← hp.countP_eq]
  have h := hn
  rw [← List.take_append_drop L ps, List.nodup_append] at h
  have e : ps.countP (fun k => decide (k ∈ ps.take L)) = (ps.take L).countP (fun k => decide (k ∈ ps.take L)) + (ps.drop L).countP (fun k => decide (k ∈ ps.take L)) := by
    conv => lhs; arg 2; rw [← List.take_append_drop L ps]
    rw [List.countP_append]
  rw [e, List.countP_eq_length.2 (fun a ha => by simpa using ha), List.countP_eq_zero.2 (fun a ha => by
    simp only [decide_eq_true_eq]
    intro hm
    exact h.2.2 _ hm _ ha rfl), List.length_take]
  omega
/-- A list of places, those that come ahead first. -/
structure InOrder (r : Nat → Int) (n : Nat) (ps : List Nat) : Prop where
  perm : ps.Perm (List.range n)
  order : ∀ i j, i < j → (hj : j < ps.length) → ∀ (hi : i < ps.length), ahead r ps[j] ps[i] = false
theorem InOrder.length {r : Nat → Int} {n : Nat} {ps : List Nat} (h : InOrder r n ps) : ps.length = n := by rw [h.perm.length_eq, List.length_range]
theorem InOrder.nodup {r : Nat → Int} {n : Nat} {ps : List Nat} (h : InOrder r n ps) : ps.Nodup := h.perm.nodup_iff.2 List.nodup_range
theorem InOrder.lt {r : Nat → Int} {n : Nat} {ps : List Nat} (h : InOrder r n ps) (i : Nat) (hi : i < ps.length) : ps[i] < n := List.mem_range.1 (h.perm.mem_iff.1 (List.getElem_mem hi))
theorem InOrder.one {r : Nat → Int} {n L : Nat} {ps : List Nat} (h : InOrder r n ps) (hL : L ≤ n) (k : Nat) (hk : k < n) : one ps L k = if rank r n k < L then 1 else 0 := by
  have hu : ∀ k j, k < n → j < n → decide (k ∈ ps.take L) = true → decide (j ∈ ps.take L) = false → ahead r k j = true := fun k j hk hj h1 h2 => by
    simp only [decide_eq_true_eq, decide_eq_false_iff_not] at h1 h2
    obtain ⟨a, ha, rfl⟩ := List.mem_iff_getElem.1 h1
    have hjm : j ∈ ps := h.perm.mem_iff.2 (List.mem_range.2 hj)
    obtain ⟨b, hb, rfl⟩ := List.mem_iff_getElem.1 hjm
    rw [List.length_take] at ha
    rw [List.getElem_take] at *
    have hab : a < b := by
      refine Nat.lt_of_not_le fun hba => h2 ?_
      exact List.mem_iff_getElem.2 ⟨b, by rw [List.length_take]; omega, by rw [List.getElem_take]⟩
    refine ahead_total (fun e => h2 (e ▸ h1)) (h.order a b hab hb (by omega))
  have := among (r := r) (G := fun k => decide (k ∈ ps.take L)) (count_first h.perm hL) hu k hk
  unfold Go.Proofs.YtbiompjhenkieaaGreat.one
  by_cases hm : k ∈ ps.take L
  · rw [if_pos hm, if_pos]
    rw [decide_eq_true hm] at this
    exact of_decide_eq_true this.symm
  · rw [if_neg hm, if_neg]
    rw [decide_eq_false hm] at this
    exact of_decide_eq_false this.symm
theorem Places.inOrder {r : Nat → Int} {n : Nat} {d : Array (Fin (n + 1))} (h : Places r n d) : InOrder r (n + 1) (d.toList.map (·.val)) := by
  have hs := h.size
  constructor
  · have hp := h.perm.2.2
    rw [Array.extract_eq_self_of_le (by omega), Array.extract_eq_self_of_le (by rw [placesF_size]; omega)] at hp
    refine (hp.map _).trans ?_
    have e : (placesF n).toList.map (·.val) = List.range (n + 1) := by
      apply List.ext_getElem (by simp [placesF])
      intro i h1 h2
      have h3 : i < n + 1 := by simpa using h2
      have := placesF_get n i h3
      rw [getElem!_pos (placesF n) i (by rw [placesF_size]; exact h3)] at this
      rw [List.getElem_map, List.getElem_range, Array.getElem_toList]
      exact this
    rw [e]
  · intro i j hij hj hi
    simp only [List.length_map, Array.length_toList] at hi hj
    have := h.sorted i j (Nat.zero_le _) hij (by omega)
    rw [getElem!_pos d i hi, getElem!_pos d j hj] at this
    simpa [aheadF] using this
theorem sum_one {r : Nat → Int} {n L : Nat} {ps : List Nat} (h : InOrder r n ps) (hL : L ≤ n) : sumTo (one ps L) n = L := by
  have e : ∀ m, sumTo (one ps L) m = ((List.range m).countP (fun k => decide (k ∈ ps.take L)) : Nat) := by
    intro m
    induction m with
    | zero => rfl
    | succ m ih =>
      rw [sumTo, ih, List.range_succ, List.countP_append, List.countP_singleton]
      unfold one
      by_cases hm : m ∈ ps.take L <;> simp [hm]
  rw [e, count_first h.perm hL]

/-! ### Shares -/
/-- The weight at k, what it gets, what it leaves. -/
def wt (ws : List Int) (k : Nat) : Int := ws.getD k 0
def quo (s : Int) (ws : List Int) (a : Int) (k : Nat) : Int := s * wt ws k / a
def rst (s : Int) (ws : List Int) (a : Int) (k : Nat) : Int := s * wt ws k - quo s ws a k * a
/-- All weights, which are right. -/
structure Weights (s : Int) (ws : List Int) (a : Int) : Prop where
  s0 : 0 ≤ s
  s1 : s ≤ 1125899906842624
  w0 : ∀ k, 0 ≤ wt ws k
  all : sumTo (wt ws) ws.length = a
  a0 : 0 < a
  a1 : a ≤ 1125899906842624
theorem wt_out {ws : List Int} {k : Nat} (h : ¬ k < ws.length) : wt ws k = 0 := by simp [wt, List.getD, h]
theorem Weights.wa {s : Int} {ws : List Int} {a : Int} (h : Weights s ws a) (k : Nat) : wt ws k ≤ a := by
  by_cases hk : k < ws.length
  · have h1 := sumTo_mono ws.length (fun t _ => h.w0 t) (k + 1) hk
    rw [sumTo, h.all] at h1
    have h2 := sumTo_nonneg (f := wt ws) k (fun t _ => h.w0 t)
    omega
  · rw [wt_out hk]; exact Int.le_of_lt h.a0
theorem Weights.quo {s : Int} {ws : List Int} {a : Int} (h : Weights s ws a) (k : Nat) : 0 ≤ quo s ws a k ∧ quo s ws a k ≤ s := by
  have h1 := h.w0 k
  have h2 := h.wa k
  refine ⟨Int.ediv_nonneg (Int.mul_nonneg h.s0 h1) (Int.le_of_lt h.a0), ?_⟩
  have : s * wt ws k ≤ s * a := Int.mul_le_mul_of_nonneg_left h2 h.s0
  exact Int.ediv_le_of_le_mul h.a0 this
theorem Weights.rst {s : Int} {ws : List Int} {a : Int} (h : Weights s ws a) (k : Nat) : 0 ≤ rst s ws a k ∧ rst s ws a k < a := by
  unfold Go.Proofs.YtbiompjhenkieaaGreat.rst Go.Proofs.YtbiompjhenkieaaGreat.quo
  have e := Int.mul_ediv_add_emod (s * wt ws k) a
  have h1 := Int.emod_nonneg (s * wt ws k) (Int.ne_of_gt h.a0)
  have h2 := Int.emod_lt_of_pos (s * wt ws k) h.a0
  rw [Int.mul_comm] at e
  omega
/-- What is left of the sum. -/
def left (s : Int) (ws : List Int) (a : Int) : Int := s - sumTo (quo s ws a) ws.length
theorem Weights.left_all {s : Int} {ws : List Int} {a : Int} (h : Weights s ws a) : left s ws a * a = sumTo (Go.Proofs.YtbiompjhenkieaaGreat.rst s ws a) ws.length := by
  have e : sumTo (fun k => s * wt ws k) ws.length = s * a := by
    rw [sumTo_congr (g := fun k => wt ws k * s) _ (fun t _ => Int.mul_comm _ _), sumTo_mul, h.all, Int.mul_comm]
  have e2 : sumTo (fun k => s * wt ws k) ws.length = sumTo (Go.Proofs.YtbiompjhenkieaaGreat.quo s ws a) ws.length * a + sumTo (Go.Proofs.YtbiompjhenkieaaGreat.rst s ws a) ws.length := by
    rw [← sumTo_mul, ← sumTo_add]
    exact sumTo_congr _ fun t _ => by unfold Go.Proofs.YtbiompjhenkieaaGreat.rst; omega
  unfold left
  rw [Int.sub_mul]
  omega
theorem Weights.left {s : Int} {ws : List Int} {a : Int} (h : Weights s ws a) : 0 ≤ left s ws a ∧ left s ws a < ws.length := by
  have e := h.left_all
  have h1 := sumTo_nonneg (f := Go.Proofs.YtbiompjhenkieaaGreat.rst s ws a) ws.length (fun t _ => (h.rst t).1)
  have hn : 0 < ws.length := by
    rcases Nat.eq_zero_or_pos ws.length with h0 | h0
    · have := h.all; rw [h0] at this; have := h.a0; simp [sumTo] at *; omega
    · exact h0
  have h2 := sumTo_le (f := Go.Proofs.YtbiompjhenkieaaGreat.rst s ws a) (b := a - 1) ws.length (fun t _ => by have := (h.rst t).2; omega)
  have h3 : sumTo (Go.Proofs.YtbiompjhenkieaaGreat.rst s ws a) ws.length < ws.length * a := by
    have : (ws.length : Int) * (a - 1) = ws.length * a - ws.length := by rw [Int.mul_sub, Int.mul_one]
    omega
  constructor
  · refine Int.not_lt.1 fun hlt => ?_
    have := Int.mul_neg_of_neg_of_pos hlt h.a0
    omega
  · refine Int.lt_of_mul_lt_mul_right ?_ (Int.le_of_lt h.a0)
    rw [e]; exact h3
/-- The share of the weight at k; and all shares. -/
def shareAt (s : Int) (ws : List Int) (a : Int) (k : Nat) : Int := quo s ws a k + if (rank (rst s ws a) ws.length k : Int) < left s ws a then 1 else 0
def sharesBy (s : Int) (ws : List Int) (a : Int) : List Int := (List.range ws.length).map (shareAt s ws a)
theorem sharesBy_length (s : Int) (ws : List Int) (a : Int) : (sharesBy s ws a).length = ws.length := by simp [sharesBy]
theorem sharesBy_get (s : Int) (ws : List Int) (a : Int) (k : Nat) (h : k < (sharesBy s ws a).length) : (sharesBy s ws a)[k] = shareAt s ws a k := by simp [sharesBy]
end Go.Proofs.YtbiompjhenkieaaGreat
