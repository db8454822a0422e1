/-
  Package command: EncodeAnswer, DecodeAnswer; an answer as an argument. Conditions: those of each theorem.
-/
import Derived.Test.YtmaoimjfkncnpaaCmDec
import Derived.ChangeKeysEq
namespace Go.Proofs.Ytmaoimjfkncnpaa
open Go.RowKit
set_option maxRecDepth 100000

theorem run_isAgg_no {P : Program} {t : TypeId} {d : TypeDesc} (h : P.underlying t = some d) (hd : aggD d = false) (w : World) : (isAgg t).run P w = .ok false w := by
  unfold isAgg
  rw [Sem.run_bind, run_underlying h w]
  cases d <;> simp_all [aggD]
/-- Whether a piece of one value is equal to that of another. -/
def PieceEq (P : Program) (d : Nat) (t : TypeId) (xs ys : Array Value) (off : Nat) (b : Bool) : Prop := ∀ W : World, ∃ u v, (part t xs off).run P W = .ok u W ∧ (part t ys off).run P W = .ok v W ∧ (Op.equalIn d t u v).run P W = .ok b W
theorem eqFields_nil {P : Program} (d : Nat) (xs ys : Array Value) (W : World) : (Op.eqFields d xs ys []).run P W = .ok true W := by simp [Op.eqFields]
theorem eqFields_cons {P : Program} {d : Nat} {xs ys : Array Value} {f : Field} {fs : List Field} {b c : Bool} (hn : f.name ≠ "_") (h : PieceEq P d f.type xs ys f.offset b) (ih : ∀ W, (Op.eqFields d xs ys fs).run P W = .ok c W) (W : World) :
    (Op.eqFields d xs ys (f :: fs)).run P W = .ok (b && c) W := by
  obtain ⟨u, v, h1, h2, h3⟩ := h W
  unfold Op.eqFields
  rw [if_pos hn]
  simp only [Sem.run_bind, h1, h2, h3, Result.andThen_ok]
  cases b
  · simp
  · simpa using ih W
theorem pieceEq_int {P : Program} {d off : Nat} {t : TypeId} {k k' : IntKind} {xs ys : Array Value} {n m : Int} (ht : P.underlying t = some (.int k')) (hx : xs[off]? = some (.int k n)) (hy : ys[off]? = some (.int k m)) : PieceEq P (d + 1) t xs ys off (n == m) := fun W =>
  ⟨.int k n, .int k m, by simp [part, Sem.run_bind, run_isAgg_no ht rfl, hx], by simp [part, Sem.run_bind, run_isAgg_no ht rfl, hy], by rw [run_equalIn_int W d t k k' n m ht]⟩
theorem struct_eq {P : Program} {d : Nat} {t : TypeId} {xs ys : Array Value} {b : Bool} (hu : P.underlying t = some (.struct (P.fieldsOf t))) (hp : P.stoodInHeld t = false) (h : ∀ W, (Op.eqFields d xs ys (P.fieldsOf t).toList).run P W = .ok b W) (W : World) :
    (Op.equalIn (d + 1) t (.agg xs) (.agg ys)).run P W = .ok b W := by
  rw [run_equalIn_struct W d t xs ys hu hp]
  exact h W
/-- Two answers are equal just if both numbers are. -/
def sameA (a b c d : Int) : Bool := (a == c) && ((b == d) && true)
theorem run_equal_ans (k : Nat) (a b c d : Int) (W : World) : (Op.equalIn (k + 2) 43 (.agg #[.int .i64 a, .int .i64 b]) (.agg #[.int .i64 c, .int .i64 d])).run Try.prog W = .ok (sameA a b c d) W := by
  refine struct_eq Try.underlying43 (by kernel_rfl) (fun W => ?_) W
  exact eqFields_cons (by decide) (pieceEq_int Try.underlying27 rfl rfl) (fun W => eqFields_cons (by decide) (pieceEq_int Try.underlying2 rfl rfl) (fun W => eqFields_nil _ _ _ W) W) W

theorem oneE : Try.prog.cellsOf 27 = 1 := by kernel_rfl
theorem oneL : Try.prog.cellsOf 2 = 1 := by kernel_rfl
theorem twoA : Try.prog.cellsOf 43 = 2 := by kernel_rfl
theorem val_ans {w : World} {v : Value} {r : Reach} {base : Nat} (hv : Value.okWide Try.prog w r base 43 v) (h : Rd Try.prog w 43 v.cells.toList) : ∃ er va : Int, v = .agg #[.int .i64 er, .int .i64 va] ∧ I64 er ∧ I64 va := by
  have e := val_struct hv Try.underlying43
  have hl := (h.struct Try.underlying43).1
  obtain ⟨f0, h0, w0⟩ := (h.field Try.underlying43 0 rfl (u := 27) (o := 0) (n := 1) (by kernel_rfl) (by kernel_rfl) oneE).int Try.underlying27
  obtain ⟨f1, h1, w1⟩ := (h.field Try.underlying43 1 rfl (u := 2) (o := 1) (n := 1) (by kernel_rfl) (by kernel_rfl) oneL).int Try.underlying2
  rw [twoA] at hl
  refine ⟨f0, f1, ?_, wf_i64 w0, wf_i64 w1⟩
  rw [e]
  congr 1
  apply Array.toList_inj.1
  revert hl h0 h1
  generalize v.cells.toList = cs
  intro hl h0 h1
  match cs, hl with
  | [x0, x1], _ =>
    simp only [List.drop_zero, List.drop_succ_cons, List.take_succ_cons, List.take_zero] at h0 h1
    injection h0 with h0 _
    injection h1 with h1 _
    rw [h0, h1]

/-- An answer's bytes. -/
def ansBytes (er va : Int) : List UInt8 := le er 1 ++ le (IntKind.u64.wrap va) 8
theorem ansBytes_length (er va : Int) : (ansBytes er va).length = 9 := by simp [ansBytes, le_length]
/-- A block of an answer. -/
theorem ans_cells (w : World) (t : TypeId) (a b : Int) : (w.alloc (.cells #[.int .i64 a, .int .i64 b] t)).cell? ⟨w.heap.size, 0, none⟩ = some (.int .i64 a) ∧ (w.alloc (.cells #[.int .i64 a, .int .i64 b] t)).cell? ⟨w.heap.size, 1, none⟩ = some (.int .i64 b) := by
  constructor
  · rw [cell_of_row _ _ 0 _ _ _ (heap_alloc_new w _)]; rfl
  · rw [cell_of_row _ _ 1 _ _ _ (heap_alloc_new w _)]; rfl

def EncA (er va : Int) (e : Ending) (w' : World) : Prop :=
  (fits er 1 = true ∧ ∃ a c, e = .returned (.tuple #[.slice a 9 c, .int .i64 0]) ∧ IsBytes w' a (ansBytes er va) ∧ (a = none → c = 0)) ∨ (fits er 1 = false ∧ e = .returned (.tuple #[.slice none 0 0, .int .i64 1]))

set_option maxHeartbeats 4000000 in
theorem cm_encA (er va : Int) (her : I64 er) (w : World) : Calls Try.prog 19 #[.agg #[.int .i64 er, .int .i64 va]] w fun e w' => EncA er va e w' ∧ Below w.heap.size w w' := by
  obtain ⟨c0, c1⟩ := ans_cells w 43 er va
  have HB : Aside (Below w.heap.size w (w.alloc (.cells #[.int .i64 er, .int .i64 va] 43))) := upd_box _
  go_enter Try.func19, Try.ntmps19
  go_upto_region 2 with (fail)
  generalize hw1 : w.alloc (.cells #[.int .i64 er, .int .i64 va] 43) = w1 at *
  have HB2 : Aside (Below w.heap.size w (w1.alloc (.cells #[.slice none 0 0, .bool false] 52))) := blw_alloc HB.out _
  have O2 : Aside (OutAt (w1.alloc (.cells #[.slice none 0 0, .bool false] 52)) w1.heap.size (fun k => k = w1.heap.size) [] false) := out_made w1
  have hs1 : w1.heap.size = w.heap.size + 1 := by rw [← hw1]; simp
  have hl : w.heap.size < w1.heap.size := by omega
  have d0 : (w1.alloc (.cells #[.slice none 0 0, .bool false] 52)).cell? ⟨w.heap.size, 0, none⟩ = some (.int .i64 er) := (Below.cell (p := ⟨w.heap.size, 0, none⟩) (upd_box _) hl).trans c0
  have d1 : (w1.alloc (.cells #[.slice none 0 0, .bool false] 52)).cell? ⟨w.heap.size, 1, none⟩ = some (.int .i64 va) := (Below.cell (p := ⟨w.heap.size, 1, none⟩) (upd_box _) hl).trans c1
  obtain ⟨po, hpo⟩ : ∃ g, g = w1.heap.size := ⟨_, rfl⟩
  obtain ⟨g1, hg1⟩ : ∃ g, g = w.heap.size := ⟨_, rfl⟩
  rw [show w.heap.size + 1 = w1.heap.size from hs1.symm]
  rw [← hpo] at O2 hl ⊢
  rw [← hg1] at d0 d1 hl ⊢
  have HP : Hid (g1 < po ∧ w.heap.size ≤ po) := ⟨hl, by omega⟩
  clear hpo hs1 hw1 c0 c1 HB hg1
  generalize w1.alloc (.cells #[.slice none 0 0, .bool false] 52) = w2 at *
  have hl2 : g1 < w2.heap.size := by have := O2.out.lt po rfl; omega
  have HC : Aside _ := out_u8 O2.out er her (by decide)
  go_wp2_with fail
  refine Calls.mono HC.out ?_
  rintro e w3 ⟨rfl, S3, o3, u3, k3⟩
  have HB3 : Aside (Below w.heap.size w w3) := HB2.out.trans (u3.toBelow HB2.out.size (fun k hk e => by have := HP.out; have e : k = po := e; omega))
  have z1 : w3.cell? ⟨g1, 1, none⟩ = some (.int .i64 va) := (u3.cell (p := ⟨g1, 1, none⟩) hl2 (fun e => by have := HP.out; have e : g1 = po := e; omega)).trans d1
  have O3 : Aside (OutAt w3 po S3 (putN [] false er 1).1 (putN [] false er 1).2) := o3
  have K3 : Hid (∀ k, S3 k → w.heap.size ≤ k) := fun k hk => (k3 k hk).elim (fun e => by have := HP.out; have e : k = po := e; omega) (fun e => by have := HB2.out.size; omega)
  clear HC o3 u3 k3 d0 d1 HB2 O2 hl2
  have HC : Aside _ := out_i64 O3.out va (by have := putN_len [] false er 1; simp at this; omega)
  go_wp2_with fail
  refine Calls.mono HC.out ?_
  rintro e w4 ⟨rfl, S4, o4, u4, k4⟩
  have HB4 : Aside (Below w.heap.size w w4) := HB3.out.trans (u4.toBelow HB3.out.size (fun k hk e => by have := K3.out k e; omega))
  have O4 : Aside (OutAt w4 po S4 (addB (putN [] false er 1).1 (putN [] false er 1).2 (le (IntKind.u64.wrap va) 8)) (putN [] false er 1).2) := o4
  clear HC o4 u4 k4 z1 HB3 O3 K3
  have HC : Aside _ := end_in O4.out (by have h1 := addB_len (putN [] false er 1).1 (putN [] false er 1).2 (le (IntKind.u64.wrap va) 8); have h2 := putN_len [] false er 1; rw [le_length] at h1; simp at h2; omega)
  go_wp2_with fail
  refine Calls.mono HC.out ?_
  rintro e w5 ⟨⟨a, c, rfl, hr⟩, b5⟩
  have HB5 : Aside (Below w.heap.size w w5) := HB4.out.trans (b5.mono HB4.out.size)
  obtain ⟨r1, -, -, -, r5⟩ := bytes_of_row hr
  clear HC b5 HB4 O4 hr
  by_cases hf : fits er 1 = true
  · have e1 : putN [] false er 1 = (le er 1, false) := by unfold putN; rw [if_pos hf]; rfl
    rw [e1] at r1 ⊢
    have e2 : addB (le er 1, false).1 (le er 1, false).2 (le (IntKind.u64.wrap va) 8) = ansBytes er va := rfl
    rw [e2] at r1 ⊢
    rw [ansBytes_length]
    have e3 : endE (le er 1, false).2 = 0 := rfl
    rw [e3]
    have R1 : Aside (IsBytes w5 a (ansBytes er va)) := r1
    have R5 := Lib.hid r5
    have HF := Lib.hid hf
    clear e1 e2 e3 r1 r5 hf
    go_wp2
    go_ret2
    exact ⟨.inl ⟨HF.out, a, c, rfl, R1.out, R5.out⟩, HB5.out⟩
  · have hf' : fits er 1 = false := by simpa using hf
    have e1 : putN [] false er 1 = ([], true) := by unfold putN; rw [if_neg hf]
    rw [e1]
    have e3 : endE (([] : List UInt8), true).2 = 2 := rfl
    rw [e3]
    have HF := Lib.hid hf'
    clear e1 e3 r1 r5 hf hf'
    go_wp2
    go_ret2
    exact ⟨.inr ⟨HF.out, rfl⟩, HB5.out⟩

/-- What nine bytes tell, or fewer, or more. -/
def DecA (xs : List UInt8) (e : Ending) : Prop :=
  (xs.length = 9 ∧ e = .returned (.tuple #[.agg #[.int .i64 ((numLe (xs.take 1) : Nat) : Int), .int .i64 (wrap64 ((numLe (xs.drop 1) : Nat) : Int))], .int .i64 0])) ∨ (xs.length ≠ 9 ∧ e = .returned (.tuple #[.agg #[.int .i64 0, .int .i64 0], .int .i64 3]))
theorem took_nine {xs : List UInt8} (h : xs.length = 9) : took xs false 1 = (xs.take 1, xs.drop 1, false) ∧ took (xs.drop 1) false 8 = (xs.drop 1, [], false) := by
  constructor
  · unfold took
    rw [if_pos (by simp [canTake]; omega)]
    rfl
  · unfold took
    rw [if_pos (by simp [canTake]; omega)]
    have hl : (xs.drop 1).length = 8 := by rw [List.length_drop]; omega
    rw [show (8 : Int).toNat = 8 from rfl, List.take_of_length_le (Nat.le_of_eq hl), List.drop_of_length_le (Nat.le_of_eq hl)]
theorem took_other {xs : List UInt8} (h : xs.length ≠ 9) : (!(took (took xs false 1).2.1 (took xs false 1).2.2 8).2.2 && decide ((took (took xs false 1).2.1 (took xs false 1).2.2 8).2.1.length = 0)) = false := by
  by_cases h1 : canTake xs 1 = true
  · have e1 : took xs false 1 = (xs.take 1, xs.drop 1, false) := by unfold took; rw [if_pos h1]; rfl
    rw [e1]
    by_cases h2 : canTake (xs.drop 1) 8 = true
    · have e2 : took (xs.drop 1) false 8 = ((xs.drop 1).take 8, (xs.drop 1).drop 8, false) := by unfold took; rw [if_pos h2]; rfl
      rw [e2]
      simp [canTake] at h2
      simp
      omega
    · have e2 : took (xs.drop 1) false 8 = ([], [], true) := by unfold took; rw [if_neg h2]
      rw [e2]
      rfl
  · have e1 : took xs false 1 = ([], [], true) := by unfold took; rw [if_neg h1]
    rw [e1]
    rfl
theorem ans_info : (Try.prog.info? 43).map (·.size) = some 2 := by kernel_rfl

set_option maxHeartbeats 4000000 in
theorem cm_decA (a : Option Addr) (xs : List UInt8) (n c : Nat) (w : World) (hn : xs.length = n) (hx : IsBytes w a xs) (hnc : a = none → c = 0) (hb : n ≤ 140737488355328) :
    Calls Try.prog 20 #[.slice a n c] w fun e w' => DecA xs e ∧ Below w.heap.size w w' := by
  obtain ⟨c0, c1⟩ := ans_cells w 43 0 0
  have HB : Aside (Below w.heap.size w (w.alloc (.cells #[.int .i64 0, .int .i64 0] 43))) := upd_box _
  have HR : Aside ((w.alloc (.cells #[.int .i64 0, .int .i64 0] 43)).heap[w.heap.size]? = some (.cells #[.int .i64 0, .int .i64 0] 43 (0, 0))) := heap_alloc_new w _
  have HC : Aside _ := in_new a xs n c (w.alloc (.cells #[.int .i64 0, .int .i64 0] 43)) hn (hx.below (upd_box _)) hnc hb
  clear hx hnc hb c0 c1 hn
  go_enter Try.func20, Try.ntmps20
  go_upto_region 1 with (fail)
  obtain ⟨g1, hg1⟩ : ∃ g, g = w.heap.size := ⟨_, rfl⟩
  have hlt : w.heap.size < (w.alloc (.cells #[.int .i64 0, .int .i64 0] 43)).heap.size := by simp
  rw [← hg1] at HR hlt ⊢
  have HG : Hid (w.heap.size ≤ g1) := by show _ ≤ _; omega
  clear hg1
  generalize w.alloc (.cells #[.int .i64 0, .int .i64 0] 43) = w1 at *
  go_wp2_with fail
  refine Calls.mono HC.out ?_
  rintro e w2 ⟨p, S, rfl, i2, b2, s2⟩
  have HB2 : Aside (Below w.heap.size w w2) := HB.out.trans (b2.mono HB.out.size)
  have HR2 : Aside (w2.heap[g1]? = some (.cells #[.int .i64 0, .int .i64 0] 43 (0, 0))) := (b2.block g1 hlt).trans HR.out
  have hl2 : g1 < w2.heap.size := Nat.lt_of_lt_of_le hlt b2.size
  have HP : Hid (w.heap.size ≤ p ∧ g1 ≠ p) := ⟨by have := s2 p i2.own; have := HB.out.size; omega, by have := s2 p i2.own; omega⟩
  have HC : Aside _ := in_u8 i2
  clear HB HR b2 s2 hlt i2
  go_wp2_with fail
  refine Calls.mono HC.out ?_
  rintro e w3 ⟨rfl, i3, u3⟩
  have HB3 : Aside (Below w.heap.size w w3) := HB2.out.trans (u3.toBelow HB2.out.size (fun k hk e => by have := HP.out; have e : k = p := e; omega))
  have HR3 : Aside (w3.heap[g1]? = some (.cells #[.int .i64 0, .int .i64 0] 43 (0, 0))) := (u3.block g1 hl2 HP.out.2).trans HR2.out
  have hl3 : g1 < w3.heap.size := Nat.lt_of_lt_of_le hl2 u3.size
  have HC : Aside _ := in_i64 i3
  clear HB2 HR2 u3 hl2 i3
  go_wp2_with fail
  refine Calls.mono HC.out ?_
  rintro e w4 ⟨rfl, i4, u4⟩
  have HB4 : Aside (Below w.heap.size w w4) := HB3.out.trans (u4.toBelow HB3.out.size (fun k hk e => by have := HP.out; have e : k = p := e; omega))
  have HR4 : Aside (w4.heap[g1]? = some (.cells #[.int .i64 0, .int .i64 0] 43 (0, 0))) := (u4.block g1 hl3 HP.out.2).trans HR3.out
  have hl4 : g1 < w4.heap.size := Nat.lt_of_lt_of_le hl3 u4.size
  have I4 : Aside _ := i4
  clear HC HB3 HR3 u4 hl3 i4
  by_cases h9 : xs.length = 9
  · obtain ⟨e1, e2⟩ := took_nine h9
    rw [e1] at I4 ⊢
    dsimp only at I4 ⊢
    rw [e2] at I4 ⊢
    dsimp only at I4 ⊢
    have H9 := Lib.hid h9
    clear e1 e2 h9
    obtain ⟨er, her⟩ : ∃ er, er = ((numLe (xs.take 1) : Nat) : Int) := ⟨_, rfl⟩
    obtain ⟨va, hva⟩ : ∃ va, va = wrap64 ((numLe (xs.drop 1) : Nat) : Int) := ⟨_, rfl⟩
    rw [← her, ← hva]
    have HE : Hid (DecA xs (.returned (.tuple #[.agg #[.int .i64 er, .int .i64 va], .int .i64 0]))) := .inl ⟨H9.out, by rw [her, hva]⟩
    clear her hva H9
    go_upto_region 3 with (refine wpList_store_new rfl 43 _ _ rfl _ _ rfl rfl (by kernel_rfl) rfl rfl ?_)
    have HB5 : Aside (Below w.heap.size w (w4.alloc (.cells #[.int .i64 er, .int .i64 va] 43))) := blw_alloc HB4.out _
    have I5 : Aside (InAt (w4.alloc (.cells #[.int .i64 er, .int .i64 va] 43)) p S [] false) := I4.out.below (upd_box _)
    have R5 : Aside ((w4.alloc (.cells #[.int .i64 er, .int .i64 va] 43)).heap[g1]? = some (.cells #[.int .i64 0, .int .i64 0] 43 (0, 0))) := ((upd_box _).block g1 hl4).trans HR4.out
    have hl5 : g1 < (w4.alloc (.cells #[.int .i64 er, .int .i64 va] 43)).heap.size := by simp; omega
    obtain ⟨d0, d1⟩ := ans_cells w4 43 er va
    obtain ⟨g5, hg5⟩ : ∃ g, g = w4.heap.size := ⟨_, rfl⟩
    rw [← hg5] at d0 d1 ⊢
    have HG5 : Hid (g1 ≠ g5) := by show _ ≠ _; omega
    clear hg5 HB4 I4 HR4 hl4
    generalize w4.alloc (.cells #[.int .i64 er, .int .i64 va] 43) = w5 at *
    have HC : Aside _ := in_done I5.out
    go_wp2_with fail
    refine Calls.mono HC.out ?_
    rintro e w6 ⟨rfl, rfl⟩
    have c0 : w5.cell? ⟨g1, 0, none⟩ = some (.int .i64 0) := by rw [cell_of_row _ _ 0 _ _ _ R5.out]; rfl
    have c1 : w5.cell? ⟨g1, 1, none⟩ = some (.int .i64 0) := by rw [cell_of_row _ _ 1 _ _ _ R5.out]; rfl
    have cf : ∀ j, w5.frozen? ⟨g1, j, none⟩ = false := fun j => by have := R5.out; simp [World.frozen?, this]
    have HF : Aside (((w5.setCell ⟨g1, 0, none⟩ (.int .i64 er)).setCell ⟨g1, 1, none⟩ (.int .i64 va)).heap[g1]? = some (.cells #[.int .i64 er, .int .i64 va] 43 (0, 0))) := by
      have k0 := setCell_heap_at (o := 0) (u := .int .i64 er) R5.out
      have k1 := setCell_heap_at (o := 1) (u := .int .i64 va) k0
      show _ = _
      simpa using k1
    have HFU : Aside (Upd (fun k => k = g1) w5 ((w5.setCell ⟨g1, 0, none⟩ (.int .i64 er)).setCell ⟨g1, 1, none⟩ (.int .i64 va))) := (upd_set (p := g1) _ _).trans (upd_set (p := g1) _ _) (fun _ _ x => x)
    clear HC I5 R5
    go_wp2
    refine bodyPost_ret (results_row_tmp rfl _ _ g1 43 #[.int .i64 er, .int .i64 va] (0, 0) _ rfl HF.out Try.underlying43 rfl ans_info) rfl ?_
    exact ⟨HE.out, HB5.out.trans (HFU.out.toBelow HB5.out.size (fun k hk e => by have := HG.out; have e : k = g1 := e; omega))⟩
  · have ho := took_other h9
    have HE : Hid (DecA xs (.returned (.tuple #[.agg #[.int .i64 0, .int .i64 0], .int .i64 3]))) := .inr ⟨h9, rfl⟩
    generalize ((numLe (took xs false 1).1 : Nat) : Int) = er at *
    generalize wrap64 ((numLe (took (took xs false 1).2.1 (took xs false 1).2.2 8).1 : Nat) : Int) = va at *
    have HO := Lib.hid ho
    clear ho h9
    go_upto_region 3 with (refine wpList_store_new rfl 43 _ _ rfl _ _ rfl rfl (by kernel_rfl) rfl rfl ?_)
    have HB5 : Aside (Below w.heap.size w (w4.alloc (.cells #[.int .i64 er, .int .i64 va] 43))) := blw_alloc HB4.out _
    have I5 : Aside _ := I4.out.below (upd_box (w := w4) (.cells #[.int .i64 er, .int .i64 va] 43))
    have R5 : Aside ((w4.alloc (.cells #[.int .i64 er, .int .i64 va] 43)).heap[g1]? = some (.cells #[.int .i64 0, .int .i64 0] 43 (0, 0))) := ((upd_box _).block g1 hl4).trans HR4.out
    clear HB4 I4 HR4 hl4
    generalize w4.alloc (.cells #[.int .i64 er, .int .i64 va] 43) = w5 at *
    have HC : Aside _ := in_done I5.out
    rw [HO.out] at HC
    go_wp2_with fail
    refine Calls.mono HC.out ?_
    rintro e w6 ⟨rfl, rfl⟩
    have c0 : w5.cell? ⟨g1, 0, none⟩ = some (.int .i64 0) := by rw [cell_of_row _ _ 0 _ _ _ R5.out]; rfl
    have c1 : w5.cell? ⟨g1, 1, none⟩ = some (.int .i64 0) := by rw [cell_of_row _ _ 1 _ _ _ R5.out]; rfl
    have cf : ∀ j, w5.frozen? ⟨g1, j, none⟩ = false := fun j => by have := R5.out; simp [World.frozen?, this]
    have HF : Aside (((w5.setCell ⟨g1, 0, none⟩ (.int .i64 0)).setCell ⟨g1, 1, none⟩ (.int .i64 0)).heap[g1]? = some (.cells #[.int .i64 0, .int .i64 0] 43 (0, 0))) := by
      have k0 := setCell_heap_at (o := 0) (u := .int .i64 0) R5.out
      have k1 := setCell_heap_at (o := 1) (u := .int .i64 0) k0
      show _ = _
      simpa using k1
    have HFU : Aside (Upd (fun k => k = g1) w5 ((w5.setCell ⟨g1, 0, none⟩ (.int .i64 0)).setCell ⟨g1, 1, none⟩ (.int .i64 0))) := (upd_set (p := g1) _ _).trans (upd_set (p := g1) _ _) (fun _ _ x => x)
    clear HC I5 R5
    go_wp2
    refine bodyPost_ret (results_row_tmp rfl _ _ g1 43 #[.int .i64 0, .int .i64 0] (0, 0) _ rfl HF.out Try.underlying43 rfl ans_info) rfl ?_
    exact ⟨HE.out, HB5.out.trans (HFU.out.toBelow HB5.out.size (fun k hk e => by have := HG.out; have e : k = g1 := e; omega))⟩
end Go.Proofs.Ytmaoimjfkncnpaa
