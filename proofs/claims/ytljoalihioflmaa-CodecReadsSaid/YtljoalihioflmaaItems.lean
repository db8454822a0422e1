/-
  The codec statements' items: what memory holds of them, few, put. Conditions: those of each theorem.
-/
import Derived.Test.YtljoalihioflmaaCodecAwake
namespace Go.Proofs.Ytljoalihioflmaa
open Go.RowKit
set_option maxRecDepth 100000

/-- An item. -/
structure Item where
  kind : Int
  V : Int
  L : Int
  F : Bool
  B : List UInt8

/-- What memory holds of an item. -/
structure ItemAt (w : World) (b o : Nat) (x : Item) (a : Option Addr) (c : Nat) : Prop where
  c0 : w.cell? ⟨b, o, none⟩ = some (.int .u8 x.kind)
  c1 : w.cell? ⟨b, o + 1, none⟩ = some (.int .i64 x.V)
  c2 : w.cell? ⟨b, o + 2, none⟩ = some (.int .i64 x.L)
  c3 : w.cell? ⟨b, o + 3, none⟩ = some (.bool x.F)
  c4 : w.cell? ⟨b, o + 4, none⟩ = some (.slice a x.B.length c)
  kind : 0 ≤ x.kind ∧ x.kind < 256
  v64 : I64 x.V
  l64 : I64 x.L
  bytes : IsBytes w a x.B
  fit : x.B.length ≤ c
  cm : c ≤ 140737488351232
  nil : a = none → c = 0

def Items (w : World) (a : Option Addr) (xs : List Item) : Prop :=
  xs = [] ∨ ∃ b off, a = some ⟨b, off, none⟩ ∧ b < w.heap.size ∧ ∀ i (h : i < xs.length), ∃ ad c, ItemAt w b (off + i * 5) xs[i] ad c

theorem Items.below {w w' : World} {a : Option Addr} {xs : List Item} (h : Items w a xs) (hb : Below w.heap.size w w') : Items w' a xs := by
  rcases h with h | ⟨b, off, rfl, hlt, hi⟩
  · exact .inl h
  · refine .inr ⟨b, off, rfl, Nat.lt_of_lt_of_le hlt hb.size, fun i h => ?_⟩
    obtain ⟨ad, c, g⟩ := hi i h
    have e := fun o => hb.cell (p := ⟨b, o, none⟩) hlt
    exact ⟨ad, c, by rw [e]; exact g.c0, by rw [e]; exact g.c1, by rw [e]; exact g.c2, by rw [e]; exact g.c3, by rw [e]; exact g.c4, g.kind, g.v64, g.l64, g.bytes.upd (below_upd (fun _ => False) hb) (fun _ _ _ h => h), g.fit, g.cm, g.nil⟩

theorem cells_item : Try.prog.cellsOf 60 = 5 := by kernel_rfl
theorem cells_one8 : Try.prog.cellsOf 5 = 1 := by kernel_rfl
theorem bytes_one8 : Try.prog.bytesOf 5 = 1 := by kernel_rfl
theorem cells_int1 : Try.prog.cellsOf 3 = 1 := by kernel_rfl
theorem cells_i641 : Try.prog.cellsOf 2 = 1 := by kernel_rfl
theorem cells_bool1 : Try.prog.cellsOf 4 = 1 := by kernel_rfl
theorem cells_bytes1 : Try.prog.cellsOf 31 = 1 := by kernel_rfl

theorem items_of {w : World} {a : Option Addr} {n c : Nat} (h : Rd Try.prog w 53 [.slice a n c]) : ∃ xs : List Item, xs.length = n ∧ Items w a xs ∧ n ≤ maxLen := by
  obtain ⟨a', n', c', e, hn, hc, hr, _⟩ := h.slice_at Try.underlying53 cells_item (by decide)
  injection e with e _
  injection e with e1 e2 e3
  subst e1 e2 e3
  have key : ∀ i, i < n → ∃ x : Item, ∃ b off, a = some ⟨b, off, none⟩ ∧ b < w.heap.size ∧ ∃ ad cc, ItemAt w b (off + i * 5) x ad cc := by
    intro i hi
    rcases hr with h0 | ⟨b, off, rfl, hb, hrow⟩
    · omega
    · obtain ⟨cs, hl, hat, hrd⟩ := hrow i (by omega)
      match cs, hl with
      | [v0, v1, v2, v3, v4], _ =>
        have f0 : Rd Try.prog w 5 [v0] := hrd.field Try.underlying60 0 rfl rfl rfl cells_one8
        have f1 : Rd Try.prog w 3 [v1] := hrd.field Try.underlying60 1 rfl rfl rfl cells_int1
        have f2 : Rd Try.prog w 2 [v2] := hrd.field Try.underlying60 2 rfl rfl rfl cells_i641
        have f3 : Rd Try.prog w 4 [v3] := hrd.field Try.underlying60 3 rfl rfl rfl cells_bool1
        have f4 : Rd Try.prog w 31 [v4] := hrd.field Try.underlying60 4 rfl rfl rfl cells_bytes1
        obtain ⟨k, e0, h0⟩ := f0.int Try.underlying5
        obtain ⟨V, e1, h1⟩ := f1.int Try.underlying3
        obtain ⟨L, e2, h2⟩ := f2.int Try.underlying2
        obtain ⟨F, e3⟩ := f3.bool Try.underlying4
        obtain ⟨ad, cap, B, e4, h5, h6, h7, h8⟩ := f4.bytes47 Try.underlying31 Try.underlying5 cells_one8 bytes_one8
        obtain rfl : v0 = .int .u8 k := by injection e0
        obtain rfl : v1 = .int .i64 V := by injection e1
        obtain rfl : v2 = .int .i64 L := by injection e2
        obtain rfl : v3 = .bool F := by injection e3
        obtain rfl : v4 = .slice ad B.length cap := by injection e4
        exact ⟨⟨k, V, L, F, B⟩, b, off, rfl, hb, ad, cap, by simpa using hat 0 (by decide), by simpa using hat 1 (by decide), by simpa using hat 2 (by decide), by simpa using hat 3 (by decide), by simpa using hat 4 (by decide), wf_u8 h0, wf_i64 h1, wf_i64 h2, h7, h5, h6, h8⟩
  refine ⟨(List.range n).map fun i => if h : i < n then Classical.choose (key i h) else ⟨0, 0, 0, false, []⟩, by simp, ?_, by omega⟩
  by_cases h0 : n = 0
  · exact .inl (by simp [h0])
  · rcases hr with h1 | ⟨b, off, rfl, hb, _⟩
    · omega
    · refine .inr ⟨b, off, rfl, hb, fun i hi => ?_⟩
      simp only [List.length_map, List.length_range] at hi
      simp only [List.getElem_map, List.getElem_range, dif_pos hi]
      obtain ⟨b', off', e, _, h⟩ := Classical.choose_spec (key i hi)
      injection e with e
      injection e with e1 e2
      subst e1 e2
      exact h

/-- How many bytes items have in all. -/
def sumB : List Item → Nat
  | [] => 0
  | x :: l => x.B.length + sumB l
theorem sumB_snoc (l : List Item) (x : Item) : sumB (l ++ [x]) = sumB l + x.B.length := by
  induction l with
  | nil => simp [sumB]
  | cons y l ih => simp only [List.cons_append, sumB, ih]; omega
theorem sumB_take (l : List Item) (k : Nat) (h : k < l.length) : sumB (l.take (k + 1)) = sumB (l.take k) + l[k].B.length := by
  rw [List.take_succ_eq_append_getElem h, sumB_snoc]
theorem sumB_mono (l : List Item) (k : Nat) : sumB (l.take k) ≤ sumB l := by
  induction l generalizing k with
  | nil => simp [sumB]
  | cons y l ih =>
    cases k with
    | zero => simp [sumB]
    | succ k => simp only [List.take_succ_cons, sumB]; have := ih k; omega
def fewB (xs : List Item) : Bool := decide (xs.length ≤ 60) && decide (sumB xs ≤ 200000)

set_option maxHeartbeats 800000 in
theorem few_in (a : Option Addr) (xs : List Item) (n c : Nat) (w : World) (hn : xs.length = n) (hx : Items w a xs) (hm : n ≤ maxLen) :
    Calls Try.prog 32 #[.slice a n c] w fun e w' => e = .returned (.bool (fewB xs)) ∧ w = w' := by
  unfold maxLen at hm
  have HN := Lib.hid hn
  clear hn
  go_enter Try.func32, Try.ntmps32
  go_wp2
  go_loop [3, 4, 7] (fun s _ i => ∃ k : Nat, k ≤ n ∧ i = .int .i64 k ∧ k ≤ 60 ∧ s = .int .i64 (sumB (xs.take k) : Nat) ∧ sumB (xs.take k) ≤ 200000) (fun _ _ i => n - (intOf i).toNat)
  case atStart => exact ⟨0, Nat.zero_le _, rfl, Nat.zero_le _, rfl, Nat.zero_le _⟩
  case round =>
    obtain ⟨k, hk, rfl, hk60, rfl, hs⟩ := hrel
    by_cases hlt : k < n
    · rcases hx with rfl | ⟨b, off, rfl, hb, hi⟩
      · have := HN.out; simp at this; omega
      have hlk : k < xs.length := by rw [HN.out]; exact hlt
      obtain ⟨ad, cc, hit⟩ := hi k hlk
      have x4 := hit.c4
      have hfit := hit.fit
      have hcm := hit.cm
      have hsn := Lib.hid (sumB_take xs k hlk)
      have hmo := sumB_mono xs (k + 1)
      clear hi hit
      have hk0 : (0 : Int) ≤ (k : Int) := by omega
      have hkn : (k : Int) < (n : Int) := by omega
      rw [hsn.out] at hmo
      by_cases h60 : k < 60
      · have h60' : (k : Int) < 60 := by omega
        by_cases hbig : 200000 < sumB (xs.take k) + xs[k].B.length
        · have hbig' : (200000 : Int) < (sumB (xs.take k) : Nat) + (xs[k].B.length : Nat) := by omega
          have hf : fewB xs = false := by simp [fewB]; omega
          have HF := Lib.hid hf
          clear hf
          go_wp2
          go_ret
          exact ⟨by rw [HF.out]; rfl, rfl⟩
        · have hbig' : ¬ (200000 : Int) < (sumB (xs.take k) : Nat) + (xs[k].B.length : Nat) := by omega
          go_wp2
          go_round
          case rel => exact ⟨k + 1, by omega, by go_num, by omega, by rw [hsn.out]; go_num, by rw [hsn.out]; omega⟩
          case measure => simp [intOf]; omega
      · have h60' : (60 : Int) ≤ (k : Int) := by omega
        have hf : fewB xs = false := by have := HN.out; simp [fewB]; omega
        have HF := Lib.hid hf
        clear hf
        go_wp2
        go_ret
        exact ⟨by rw [HF.out]; rfl, rfl⟩
    · obtain rfl : k = n := by omega
      have hf : fewB xs = true := by
        have := HN.out
        rw [← this, List.take_length] at hs
        simp [fewB]; omega
      have HF := Lib.hid hf
      clear hf
      go_wp2
      go_ret
      exact ⟨by rw [HF.out]; rfl, rfl⟩

/-- An item's value. -/
def Item.val (x : Item) (a : Option Addr) (c : Nat) : Value := .agg #[.int .u8 x.kind, .int .i64 x.V, .int .i64 x.L, .bool x.F, .slice a x.B.length c]
/-- What an Out holds behind an item. -/
def putItem (ys : List UInt8) (bad : Bool) (x : Item) : List UInt8 × Bool :=
  if x.kind = 0 then putN ys bad x.V 1 else if x.kind = 1 then putN ys bad x.V 2 else if x.kind = 2 then putN ys bad x.V 4
  else if x.kind = 3 then (addB ys bad (le (IntKind.u64.wrap x.L) 8), bad) else if x.kind = 4 then putN ys bad (flagI x.F) 1
  else if x.kind = 5 then putB ys bad x.B else (addB ys bad x.B, bad)

theorem upd_box {w : World} (o : Obj) : Below w.heap.size w (w.alloc o) := (Below.refl _ _).alloc (Nat.le_refl _) _

set_option maxHeartbeats 1600000 in
theorem put_in {w : World} {p : Nat} {S : Nat → Prop} {ys : List UInt8} {bad : Bool} (h : OutAt w p S ys bad) (k V L : Int) (F : Bool) (a : Option Addr) (B : List UInt8) (c : Nat)
    (hV : I64 V) (hx : IsBytes w a B) (hnc : a = none → c = 0) (hs : B ≠ [] → ∀ x, a = some x → ¬ S x.block) (hb : ys.length ≤ 1000000) (hxl : B.length ≤ 1000000) :
    Calls Try.prog 33 #[.pointer (some ⟨p, 0, none⟩), .agg #[.int .u8 k, .int .i64 V, .int .i64 L, .bool F, .slice a B.length c]] w fun e w' => e = .returned (.tuple #[]) ∧ OutDone w p S (putItem ys bad ⟨k, V, L, F, B⟩).1 (putItem ys bad ⟨k, V, L, F, B⟩).2 w' := by
  have A0 : Below w.heap.size w (w.alloc (.cells #[.int .u8 k, .int .i64 V, .int .i64 L, .bool F, .slice a B.length c] 60)) := upd_box _
  have h1 := h.below A0
  have hx1 : IsBytes (w.alloc (.cells #[.int .u8 k, .int .i64 V, .int .i64 L, .bool F, .slice a B.length c] 60)) a B := hx.upd (below_upd (fun _ => False) A0) (fun _ _ _ h => h)
  have hp := h.lt p h.own
  by_cases k0 : k = 0
  · subst k0
    have e : putItem ys bad ⟨0, V, L, F, B⟩ = putN ys bad V 1 := by simp only [putItem, if_true]
    rw [e]
    go_enter Try.func33, Try.ntmps33
    go_wp2_with fail
    refine (out_u8 h1 V hV hb).mono ?_
    rintro e w2 ⟨rfl, d⟩
    have key := d.after A0
    go_wp2
    go_end0
    exact ⟨rfl, key⟩
  by_cases k1 : k = 1
  · subst k1
    have e : putItem ys bad ⟨1, V, L, F, B⟩ = putN ys bad V 2 := by simp [putItem]
    rw [e]
    go_enter Try.func33, Try.ntmps33
    go_wp2_with fail
    refine (out_u16 h1 V hV hb).mono ?_
    rintro e w2 ⟨rfl, d⟩
    have key := d.after A0
    go_wp2
    go_end0
    exact ⟨rfl, key⟩
  by_cases k2 : k = 2
  · subst k2
    have e : putItem ys bad ⟨2, V, L, F, B⟩ = putN ys bad V 4 := by simp [putItem]
    rw [e]
    go_enter Try.func33, Try.ntmps33
    go_wp2_with fail
    refine (out_u32 h1 V hV hb).mono ?_
    rintro e w2 ⟨rfl, d⟩
    have key := d.after A0
    go_wp2
    go_end0
    exact ⟨rfl, key⟩
  by_cases k3 : k = 3
  · subst k3
    have e : putItem ys bad ⟨3, V, L, F, B⟩ = (addB ys bad (le (IntKind.u64.wrap L) 8), bad) := by simp [putItem]
    rw [e]
    go_enter Try.func33, Try.ntmps33
    go_wp2_with fail
    refine (out_i64 h1 L hb).mono ?_
    rintro e w2 ⟨rfl, d⟩
    have key := d.after A0
    go_wp2
    go_end0
    exact ⟨rfl, key⟩
  by_cases k4 : k = 4
  · subst k4
    have e : putItem ys bad ⟨4, V, L, F, B⟩ = putN ys bad (flagI F) 1 := by simp [putItem]
    rw [e]
    go_enter Try.func33, Try.ntmps33
    go_wp2_with fail
    refine (out_flag h1 F hb).mono ?_
    rintro e w2 ⟨rfl, d⟩
    have key := d.after A0
    go_wp2
    go_end0
    exact ⟨rfl, key⟩
  by_cases k5 : k = 5
  · subst k5
    have e : putItem ys bad ⟨5, V, L, F, B⟩ = putB ys bad B := by simp [putItem]
    rw [e]
    go_enter Try.func33, Try.ntmps33
    go_wp2_with fail
    refine (out_bytes h1 a B c hx1 hnc hs hb hxl).mono ?_
    rintro e w2 ⟨rfl, d⟩
    have key := d.after A0
    go_wp2
    go_end0
    exact ⟨rfl, key⟩
  have e : putItem ys bad ⟨k, V, L, F, B⟩ = (addB ys bad B, bad) := by simp only [putItem, k0, k1, k2, k3, k4, k5, if_false]
  rw [e]
  have b0 : (k == 0) = false := by simpa using k0
  have b1 : (k == 1) = false := by simpa using k1
  have b2 : (k == 2) = false := by simpa using k2
  have b3 : (k == 3) = false := by simpa using k3
  have b4 : (k == 4) = false := by simpa using k4
  have b5 : (k == 5) = false := by simpa using k5
  clear k0 k1 k2 k3 k4 k5 e
  go_enter Try.func33, Try.ntmps33
  go_wp2_with fail
  refine (plain_in h1 a B B.length c rfl hx1 hnc (by omega)).mono ?_
  rintro e w2 ⟨rfl, d⟩
  have key := d.after A0
  go_wp2
  go_end0
  exact ⟨rfl, key⟩
end Go.Proofs.Ytljoalihioflmaa
