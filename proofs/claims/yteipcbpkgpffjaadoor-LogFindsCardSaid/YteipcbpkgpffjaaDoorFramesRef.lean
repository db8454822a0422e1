/-
  Rows of slices of bytes, and rows of numbers; the document's frames: recoupref01.Frames. Conditions: those of each theorem.
-/
import Derived.Test.YteipcbpkgpffjaaDoorFrames
import Derived.Deep.CutBlock
namespace Go.Proofs.YteipcbpkgpffjaaDoor
open Go.RowKit
set_option maxRecDepth 100000

theorem sl_info : (Tryd.prog.info? 22).map (fun i => (i.zero, i.size, i.bytes)) = some (some (.slice none 0 0), 1, 24) := by kernel_rfl
theorem int_info : (Tryd.prog.info? 3).map (fun i => (i.zero, i.size, i.bytes)) = some (some (.int .i64 0), 1, 8) := by kernel_rfl

/-- A row of slices of bytes that the call owns; E: the blocks of its slices. -/
def RowsOf (w : World) (base : Nat) (v : Value) (E : Nat → Prop) (L : List (List UInt8)) : Prop :=
  ∃ vals : List Value, w.ownsRow base 22 1 v L.length vals ∧ ∀ i (h : i < L.length), ∃ ad c, vals[i]? = some (.slice ad L[i].length c) ∧ IsBytes w ad L[i] ∧ L[i].length ≤ c ∧ c ≤ maxLen ∧ (ad = none → c = 0) ∧ ∀ x, ad = some x → E x.block
theorem RowsOf.nil (w : World) (base : Nat) (E : Nat → Prop) : RowsOf w base (.slice none 0 0) E [] := ⟨[], World.ownsRow_nil _ _ _ _, fun i h => by simp at h⟩
theorem RowsOf.slice {w : World} {base : Nat} {v : Value} {E : Nat → Prop} {L : List (List UInt8)} (h : RowsOf w base v E L) : ∃ a c, v = .slice a L.length c := by
  obtain ⟨vals, hr, _⟩ := h
  rcases hr.2 with ⟨h1, h2⟩ | ⟨g, cap, cur, hv, _⟩
  · exact ⟨none, 0, by rw [h1, h2]⟩
  · exact ⟨_, _, hv⟩
theorem RowsOf.upd {S : Nat → Prop} {w w' : World} {base : Nat} {v : Value} {E : Nat → Prop} {L : List (List UInt8)} (h : RowsOf w base v E L) (hu : Upd S w w') (hv : ∀ g, v.ownBlock = some g → ¬ S g) (hE : ∀ g, E g → ¬ S g) : RowsOf w' base v E L := by
  obtain ⟨vals, hr, hi⟩ := h
  refine ⟨vals, ownsRow_upd hr hu hv, fun i hl => ?_⟩
  obtain ⟨ad, c, h1, h2, h3, h4, h5, h6⟩ := hi i hl
  exact ⟨ad, c, h1, h2.upd hu (fun _ x hx => hE _ (h6 x hx)), h3, h4, h5, h6⟩
theorem RowsOf.below {w w' : World} {base : Nat} {v : Value} {E : Nat → Prop} {L : List (List UInt8)} (h : RowsOf w base v E L) (hb : Below w.heap.size w w') : RowsOf w' base v E L :=
  h.upd (S := fun _ => False) (below_upd _ hb) (fun _ _ h => h) (fun _ _ h => h)
/-- An append of one slice of bytes to such a row. -/
theorem RowsOf.snoc {w w1 : World} {base : Nat} {v v' : Value} {E : Nat → Prop} {L : List (List UInt8)} {x : List UInt8} {ad : Option Addr} {c : Nat} {vals : List Value} (h1 : w.ownsRow base 22 1 v L.length vals)
    (h2 : ∀ i (h : i < L.length), ∃ ad c, vals[i]? = some (.slice ad L[i].length c) ∧ IsBytes w ad L[i] ∧ L[i].length ≤ c ∧ c ≤ maxLen ∧ (ad = none → c = 0) ∧ ∀ x, ad = some x → E x.block)
    (hr : w1.ownsRow base 22 1 v' (L.length + 1) (vals ++ [.slice ad x.length c]))
    (hg : w.grownBy w1 v.ownBlock) (hx : IsBytes w ad x) (hc : x.length ≤ c) (hm : c ≤ maxLen) (hnil : ad = none → c = 0)
    (hb : ∀ y, ad = some y → v.ownBlock ≠ some y.block) (hE : ∀ g, E g → v.ownBlock ≠ some g) : RowsOf w1 base v' (fun g => E g ∨ ∃ y, ad = some y ∧ y.block = g) (L ++ [x]) := by
  have hu : Upd (fun g => v.ownBlock = some g) w w1 := (Upd.refl _ _).grown hg (fun k hk => .inl hk)
  have hvl : vals.length = L.length := by have := h1.1; omega
  refine ⟨vals ++ [.slice ad x.length c], by simpa using hr, fun i hi => ?_⟩
  by_cases hlt : i < L.length
  · obtain ⟨ad', c', g1, g2, g3, g4, g5, g6⟩ := h2 i hlt
    refine ⟨ad', c', ?_, ?_, ?_, g4, g5, fun y hy => .inl (g6 y hy)⟩
    · rw [List.getElem?_append_left (by omega), List.getElem_append_left hlt]; exact g1
    · rw [List.getElem_append_left hlt]; exact g2.upd hu (fun _ y hy => hE _ (g6 y hy))
    · rw [List.getElem_append_left hlt]; exact g3
  · obtain rfl : i = L.length := by simp at hi; omega
    refine ⟨ad, c, ?_, ?_, ?_, hm, hnil, fun y hy => .inr ⟨y, hy, rfl⟩⟩
    · rw [List.getElem?_append_right (by omega), hvl]; simp
    · simp only [List.getElem_append_right (Nat.le_refl _), Nat.sub_self, List.getElem_cons_zero]
      exact hx.upd hu (fun _ y hy => hb y hy)
    · simp only [List.getElem_append_right (Nat.le_refl _), Nat.sub_self, List.getElem_cons_zero]
      exact hc
def ival (k : Nat) : Value := .int .i64 (k : Int)

theorem frames_step {xs : List UInt8} {i : Nat} {x : List UInt8} (h : frameAt (xs.drop i) = some x) : frames (xs.drop i) = x :: frames (xs.drop (i + 7 + x.length)) := by
  rw [frames_some h, List.drop_drop, Nat.add_assoc]
/-- The place behind the last frame. -/
def endOf : Nat → List (List UInt8) → Nat
  | i, [] => i
  | i, x :: l => endOf (i + 7 + x.length) l
theorem endOf_snoc (j : Nat) (L : List (List UInt8)) (x : List UInt8) : endOf j (L ++ [x]) = endOf j L + 7 + x.length := by
  induction L generalizing j with
  | nil => rfl
  | cons y L ih => simp only [List.cons_append, endOf, ih]
theorem places_snoc (j : Nat) (L : List (List UInt8)) (x : List UInt8) : places j (L ++ [x]) = places j L ++ [endOf j L + 7 + x.length] := by
  induction L generalizing j with
  | nil => rfl
  | cons y L ih => simp only [List.cons_append, places, endOf, ih]
theorem endOf_ge (j : Nat) (L : List (List UInt8)) : j + 7 * L.length ≤ endOf j L := by
  induction L generalizing j with
  | nil => simp [endOf]
  | cons y L ih => have := ih (j + 7 + y.length); simp only [endOf, List.length_cons]; omega

/-- What stands between two rounds. -/
structure Fr (w wr : World) (xs : List UInt8) (i : Nat) (v u : Value) : Prop where
  below : Below w.heap.size w wr
  mem : ∃ E L, RowsOf wr w.heap.size v E L ∧ wr.ownsRow w.heap.size 3 1 u L.length ((places 0 L).map ival) ∧ (∀ g, E g → w.heap.size ≤ g ∧ g < wr.heap.size ∧ v.ownBlock ≠ some g ∧ u.ownBlock ≠ some g) ∧ (∀ g, v.ownBlock = some g → u.ownBlock ≠ some g) ∧
    i = endOf 0 L ∧ frames xs = L ++ frames (xs.drop i)

theorem own_slice {w : World} {base : Nat} {e : TypeId} {size : Nat} {v : Value} {n : Nat} {xs : List Value} (h : w.ownsRow base e size v n xs) : ∃ a c, v = .slice a n c := by
  rcases h.2 with ⟨h1, h2⟩ | ⟨g, cap, cur, hv, _⟩
  · exact ⟨none, 0, by rw [h1, h2]⟩
  · exact ⟨_, _, hv⟩
theorem Fr.stop {w wr W : World} {xs : List UInt8} {k : Nat} {v u : Value} (h : Fr w wr xs k v u) (hb : Below wr.heap.size wr W) (hn : frameAt (xs.drop k) = none) : Fr w W xs (endOf 0 (frames xs)) v u := by
  obtain ⟨hB, E, L, h1, h2, h3, h4, h5, h6⟩ := h
  have e : frames xs = L := by rw [h6, frames_none hn, List.append_nil]
  refine ⟨hB.trans (hb.mono hB.size), E, L, h1.below hb, ownsRow_upd (S := fun _ => False) h2 (below_upd _ hb) (fun _ _ h => h), fun g hg => ?_, h4, by rw [e], ?_⟩
  · obtain ⟨q1, q2, q3⟩ := h3 g hg
    exact ⟨q1, Nat.lt_of_lt_of_le q2 hb.size, q3⟩
  · rw [e, ← h5, frames_none hn, List.append_nil]
theorem at_off {w : World} {b off : Nat} {xs : List UInt8} (h : ∀ i (h : i < xs.length), w.cell? ⟨b, off + i, none⟩ = some (.int .u8 (xs[i].toNat : Int))) (hb : b < w.heap.size) (s m : Nat) : IsBytes w (some ⟨b, off + s, none⟩) ((xs.drop s).take m) := by
  refine .inr ⟨b, off + s, rfl, hb, fun i hi => ?_⟩
  rw [List.getElem_take, List.getElem_drop, Nat.add_assoc]
  exact h (s + i) (by simp at hi; omega)
theorem frameAt_short {b : List UInt8} (h : b.length < 8) : frameAt b = none := by
  unfold frameAt; rw [if_neg (by omega)]
theorem frameAt_mark {b : List UInt8} (h : b[0]? ≠ some 165) : frameAt b = none := by
  unfold frameAt; rw [if_neg (fun x => h x.2)]

theorem frameAt_bad {b : List UInt8} {N : Nat} (hN : numLe ((b.drop 1).take 2) = N) (h : N < 1 ∨ 60000 < N ∨ b.length < 7 + N) : frameAt b = none := by
  unfold frameAt
  split
  · simp only [hN]; rw [if_pos h]
  · rfl
theorem frameAt_sum {b : List UInt8} {N : Nat} (hN : numLe ((b.drop 1).take 2) = N) (h : numLe ((b.drop 3).take 4) ≠ crcSum ((b.drop 1).take 2 ++ (b.drop 7).take N)) : frameAt b = none := by
  unfold frameAt
  split
  · simp only [hN]; split
    · rfl
    · first | rfl | rw [if_neg h]
  · rfl
theorem frameAt_good {b : List UInt8} {N : Nat} (h8 : 8 ≤ b.length) (h0 : b[0]? = some 165) (hN : numLe ((b.drop 1).take 2) = N) (h : ¬ (N < 1 ∨ 60000 < N ∨ b.length < 7 + N)) (hs : numLe ((b.drop 3).take 4) = crcSum ((b.drop 1).take 2 ++ (b.drop 7).take N)) : frameAt b = some ((b.drop 7).take N) := by
  unfold frameAt
  rw [if_pos ⟨h8, h0⟩]
  simp only [hN]
  rw [if_neg h, if_pos hs]
theorem part2_lt (l : List UInt8) (m : Nat) : numLe (l.take m) < 256 ^ m := by
  have h1 := numLe_lt (l.take m)
  have h2 : 256 ^ (l.take m).length ≤ 256 ^ m := Nat.pow_le_pow_right (by decide) (by simp; omega)
  omega

/-- An append of one element of one cell onto a row that the call owns. -/
theorem wpList_append_elem {P : Program} {w : World} {ops : Array Oper} {rest : List Oper} {o : Oper} {act : Act} {Q : Exit → Act → World → Prop} (hgd : o.guard = none) (s x : Operand) (t : TypeId)
    (ho : o.op = .call { callee := .builtin .append, args := #[s, x], argTypes := #[t, t] })
    (base : Nat) (e : TypeId) (z : Value) (bytes : Nat) (ht : P.underlying t = some (.slice e)) (hi : (P.info? e).map (fun i => (i.zero, i.size, i.bytes)) = some (some z, 1, bytes)) (hz : z.cells.size = 1)
    (v : Value) (n : Nat) (xs : List Value) (hs : act.eval s = v) (hown : w.ownsRow base e 1 v n xs) (u : Value) (hu : u.oneCell' = true) (ad : Addr) (c : Nat) (hx : act.eval x = .slice (some ad) 1 c) (hc : w.cell? ad = some u)
    (k : Nat) (hk : n + 1 = k) (h63 : k ≤ maxLen) (hbytes : k * bytes ≤ 140737488355328) (hbase : base ≤ w.heap.size)
    (h : ∀ a' c' w', w'.ownsRow base e 1 (.slice a' k c') k (xs ++ [u]) → w.grownBy w' v.ownBlock → (∀ g, (Value.slice a' k c').ownBlock = some g → v.ownBlock = some g ∨ g = w.heap.size) → wpList P ops Q rest (act.put o.dst (.slice a' k c')) w') :
    wpList P ops Q (o :: rest) act w := by
  subst hk
  refine wpList_append_full hgd s x t ho base e z 1 bytes ht hi hz (by decide) v n xs hs hown ad 1 c [u] hx rfl ?_ ?_ h63 hbytes hbase h
  · intro j y hj
    match j, hj with
    | 0, hj =>
      injection hj with hj
      subst hj
      rw [show ad.add 0 = ad from by unfold Addr.add; split <;> simp_all]
      exact hc
    | j + 1, hj => simp at hj
  · intro y hy
    rw [List.mem_singleton.1 hy]
    exact hu

set_option maxHeartbeats 8000000 in
theorem frames_ref (a : Option Addr) (xs : List UInt8) (n c : Nat) (w : World) (hn : xs.length = n) (hx : IsBytes w a xs) (hc : n ≤ c) (hcm : c ≤ maxLen) (hnc : a = none → c = 0) (hl : n ≤ 1000000) :
    Calls Tryd.prog 51 #[.slice a n c] w fun e w' => ∃ v u, e = .returned (.tuple #[v, u]) ∧ Fr w w' xs (endOf 0 (frames xs)) v u := by
  have HN := Lib.hid hn
  clear hn
  unfold maxLen at hcm
  have hnC : (n : Int) ≤ c := by omega
  go_enter Tryd.func51, Tryd.ntmps51
  go_wp2
  go_loopw [4, 5, 6, 7, 8, 9] (fun v u i _ _ _ wr => ∃ k : Nat, k ≤ n ∧ i = .int .i64 k ∧ Fr w wr xs k v u) (fun _ _ i _ _ _ _ => n - (intOf i).toNat)
  case atStart => exact ⟨0, Nat.zero_le _, rfl, Below.refl _ _, fun _ => False, [], RowsOf.nil _ _ _, World.ownsRow_nil _ _ _ _, (fun g h => h.elim), (fun g h => by simp [Value.ownBlock] at h), rfl, rfl⟩
  case round =>
    obtain ⟨k, hk, rfl, hF⟩ := hrel
    have HF := Lib.hid hF
    obtain ⟨hB, E, L, hv, hu, hE, hvu, hki, hfr⟩ := hF
    have HKI := Lib.hid hki
    have HFR := Lib.hid hfr
    have hge := endOf_ge 0 L
    have HE := Lib.hid hE
    obtain ⟨av, cv, rfl⟩ := hv.slice
    obtain ⟨au, cu, rfl⟩ := own_slice hu
    have HVU := Lib.hid hvu
    clear hki hfr hE hvu
    have hdk : Hid ((xs.drop k).length = n - k) := by
      show (xs.drop k).length = n - k
      rw [List.length_drop, HN.out]
    by_cases h8 : n < k + 8
    · have h8' : (n : Int) - k < 8 := by omega
      have hno := Lib.hid (frameAt_short (b := xs.drop k) (by rw [hdk.out]; omega))
      go_wp2
      go_ret2
      exact ⟨_, _, rfl, HF.out.stop (Below.refl _ _) hno.out⟩
    · have h8' : (8 : Int) ≤ (n : Int) - k := by omega
      rcases hx with rfl | ⟨b, off, rfl, hb, hcs⟩
      · have := HN.out; simp at this; omega
      have hlk : k < xs.length := by rw [HN.out]; omega
      have hcw : ∀ i (h : i < xs.length), wr.cell? ⟨b, off + i, none⟩ = some (.int .u8 (xs[i].toNat : Int)) := fun i h => (hB.cell (p := ⟨b, off + i, none⟩) hb).trans (hcs i h)
      have hck := hcw k hlk
      have hbr : b < wr.heap.size := Nat.lt_of_lt_of_le hb hB.size
      have HCW := Lib.hid hcw
      have HCS := Lib.hid hcs
      clear hcs hcw
      have hk0 : (0 : Int) ≤ (k : Int) := by omega
      have hkn : (k : Int) < (n : Int) := by omega
      by_cases hm : xs[k] = 165
      · have hm' : ((xs[k].toNat : Int) == 165) = true := by rw [hm]; rfl
        have HM := Lib.hid hm
        clear hm
        have h1c : (k : Int) + 1 ≤ (k : Int) + 3 := by omega
        have h3c : (k : Int) + 3 ≤ (c : Int) := by omega
        have h13 : ¬ c = k + 1 := by omega
        have h13' : ¬ c = k + 3 := by omega
        have h17' : ¬ c = k + 7 := by omega
        have hmk2 : Hid (((xs.drop (k + 1)).take 2).length = 2) := by
          show ((xs.drop (k + 1)).take 2).length = 2
          rw [List.length_take, List.length_drop, HN.out]; omega
        have i2 := at_off HCW.out hbr (k + 1) 2
        go_wp2_with fail
        refine (number_ref _ ((xs.drop (k + 1)).take 2) 2 _ wr hmk2.out i2 (by decide)).mono ?_
        rintro e w1 ⟨rfl, rfl⟩
        have hN6 := part2_lt (xs.drop (k + 1)) 2
        rw [u64r_small (by omega)]
        have hdd : ∀ s, (xs.drop k).drop s = xs.drop (k + s) := fun s => by rw [List.drop_drop]
        have HNN : Hid (∃ N, numLe ((xs.drop (k + 1)).take 2) = N) := ⟨_, rfl⟩
        obtain ⟨N, hNN⟩ := HNN.out
        rw [hNN] at hN6 ⊢
        have hN1 : Hid (numLe (((xs.drop k).drop 1).take 2) = N) := by
          show numLe (((xs.drop k).drop 1).take 2) = N
          rw [hdd]; exact hNN
        have HDD := Lib.hid hdd
        clear hNN HNN hdd
        have hN65 : N < 65536 := by omega
        clear hN6
        by_cases hbad : N < 1 ∨ 60000 < N ∨ n < k + 7 + N
        · have hno := Lib.hid (frameAt_bad hN1.out (by rw [hdk.out]; omega))
          have HBAD := Lib.hid hbad
          clear hbad
          by_cases hq1 : N < 1
          · have hq1' : (N : Int) < 1 := by omega
            go_wp2
            go_ret2
            exact ⟨_, _, rfl, HF.out.stop (Below.refl _ _) hno.out⟩
          · have hq1' : ¬ (N : Int) < 1 := by omega
            by_cases hq2 : 60000 < N
            · have hq2' : (60000 : Int) < N := by omega
              go_wp2
              go_ret2
              exact ⟨_, _, rfl, HF.out.stop (Below.refl _ _) hno.out⟩
            · have hq2' : ¬ (60000 : Int) < N := by omega
              have hq3' : (n : Int) < (k : Int) + 7 + (N : Int) := by have := HBAD.out; omega
              go_wp2
              go_ret2
              exact ⟨_, _, rfl, HF.out.stop (Below.refl _ _) hno.out⟩
        · have hq1' : ¬ (N : Int) < 1 := by omega
          have hq2' : ¬ (60000 : Int) < N := by omega
          have hq3' : ¬ (n : Int) < (k : Int) + 7 + (N : Int) := by omega
          have hq4 : (k : Int) + 7 + (N : Int) ≤ (c : Int) := by omega
          have HBAD := Lib.hid hbad
          have hxl : Hid (((xs.drop (k + 7)).take N).length = N) := by
            show ((xs.drop (k + 7)).take N).length = N
            rw [List.length_take, List.length_drop, HN.out]; omega
          have hmk3 : Hid (((xs.drop (k + 1)).take 2).length = k + 3 - (k + 1)) := hmk2.out.trans (by omega)
          have i7 := at_off HCW.out hbr (k + 7) N
          clear hbad
          have A2 : Below wr.heap.size wr (wr.alloc (.cells #[] 5)) := upd_box _
          have o2 := own_empty wr
          have i22 := i2.below A2
          have z2 : wr.heap.size ≤ (wr.alloc (.cells #[] 5)).heap.size := by simp
          go_upto_region 9 with (first
            | (at_builtin; refine wpList_append_own1 rfl _ _ 22 rfl wr.heap.size 5 Tryd.underlying22 u8_info (.slice (some ⟨wr.heap.size, 0, none⟩) 0 0) 0 [] rfl o2 (some ⟨b, off + (k + 1), none⟩) ((xs.drop (k + 1)).take 2) (k + 3 - (k + 1)) hmk3.out (c - (k + 1)) rfl i22 (fun x => by cases x) 2 (by omega) (by decide) z2 ?_; intro a3 c3 w3 hr3 hb3 hn3 hu3; have B3 : Below wr.heap.size wr w3 := A2.trans hb3; have i73 := i7.below B3)
            | (at_builtin; refine wpList_append_own1 rfl _ _ 22 rfl wr.heap.size 5 Tryd.underlying22 u8_info (.slice a3 2 c3) 2 _ rfl hr3 (some ⟨b, off + (k + 7), none⟩) ((xs.drop (k + 7)).take N) N hxl.out (c - (k + 7)) rfl i73 (fun x => by cases x) (2 + N) (by omega) (by omega) B3.size ?_; intro a4 c4 w4 hr4 hb4 hn4 hu4))
          have B4 : Below wr.heap.size wr w4 := B3.trans hb4
          rw [List.nil_append] at hr4
          obtain ⟨g4, -, -, -, -⟩ := bytes_of_row hr4
          have i3 := (at_off HCW.out hbr (k + 3) 4).below B4
          have hmk4 : Hid (((xs.drop (k + 3)).take 4).length = 4) := by
            show ((xs.drop (k + 3)).take 4).length = 4
            rw [List.length_take, List.length_drop, HN.out]; omega
          have hM := part2_lt (xs.drop (k + 3)) 4
          have hal : Hid (((xs.drop (k + 1)).take 2 ++ (xs.drop (k + 7)).take N).length = 2 + N) := by
            show ((xs.drop (k + 1)).take 2 ++ (xs.drop (k + 7)).take N).length = 2 + N
            rw [List.length_append, hmk2.out, hxl.out]
          have hgood : Hid (numLe (((xs.drop k).drop 3).take 4) = crcSum (((xs.drop k).drop 1).take 2 ++ ((xs.drop k).drop 7).take N) ↔ numLe ((xs.drop (k + 3)).take 4) = crcSum ((xs.drop (k + 1)).take 2 ++ (xs.drop (k + 7)).take N)) := by
            show numLe (((xs.drop k).drop 3).take 4) = crcSum (((xs.drop k).drop 1).take 2 ++ ((xs.drop k).drop 7).take N) ↔ numLe ((xs.drop (k + 3)).take 4) = crcSum ((xs.drop (k + 1)).take 2 ++ (xs.drop (k + 7)).take N)
            rw [HDD.out, HDD.out, HDD.out]
          have hS := crcSum_lt ((xs.drop (k + 1)).take 2 ++ (xs.drop (k + 7)).take N)
          clear o2 i22 z2 A2 hr3 hb3 hn3 hu3 i73 hr4 hb4 hn4 hu4 i2
          go_wp2_with fail
          refine (number_ref _ ((xs.drop (k + 3)).take 4) 4 _ w4 hmk4.out i3 (by decide)).mono ?_
          rintro e w5 ⟨rfl, rfl⟩
          rw [u64r_small (by omega)]
          have HG2 : Hid (∃ M, numLe ((xs.drop (k + 3)).take 4) = M) := ⟨_, rfl⟩
          obtain ⟨M, hMM⟩ := HG2.out
          rw [hMM] at hM ⊢
          have HMM := Lib.hid hMM
          have hM2 : M < 4294967296 := by omega
          clear hMM HG2 hM
          go_wp2_with fail
          refine (sum_ref a4 ((xs.drop (k + 1)).take 2 ++ (xs.drop (k + 7)).take N) (2 + N) c4 w4 hal.out g4 (by unfold maxLen; omega)).mono ?_
          rintro e w5 ⟨rfl, rfl⟩
          have HG3 : Hid (∃ Z, crcSum ((xs.drop (k + 1)).take 2 ++ (xs.drop (k + 7)).take N) = Z) := ⟨_, rfl⟩
          obtain ⟨Z, hZ⟩ := HG3.out
          rw [hZ] at hS ⊢
          have HZ := Lib.hid hZ
          clear hZ HG3
          by_cases hMZ : M = Z
          · have hb1 : ((M : Int) != (Z : Int)) = false := by simp [hMZ]
            have HMZ := Lib.hid hMZ
            clear hMZ
            obtain ⟨vals, hvr, hvi⟩ := hv.below B4
            have HV4 := hv.below B4
            have hu4 := ownsRow_upd (S := fun _ => False) hu (below_upd _ B4) (fun _ _ h => h)
            have hvlt : ∀ g, (Value.slice av L.length cv).ownBlock = some g → g < w4.heap.size := fun g hg => own_lt hvr hg
            have hult : ∀ g, (Value.slice au L.length cu).ownBlock = some g → g < w4.heap.size := fun g hg => own_lt hu4 hg
            have B40 : Below w.heap.size w w4 := hB.trans (B4.mono hB.size)
            have hLn : L.length ≤ 1000000 := by have := HKI.out; omega
            have hLm : L.length + 1 ≤ maxLen := by unfold maxLen; omega
            have hLb : (L.length + 1) * 24 ≤ 140737488355328 := by omega
            have hLb8 : (L.length + 1) * 8 ≤ 140737488355328 := by omega
            have A5 : Below w4.heap.size w4 (w4.alloc (.cells #[] 5)) := upd_box _
            have o5 := own_empty w4
            have i75 := (i7.below B4).below A5
            have z5 : w4.heap.size ≤ (w4.alloc (.cells #[] 5)).heap.size := by simp
            have HVI := Lib.hid hvi
            have HVL := Lib.hid hvlt
            have HUL := Lib.hid hult
            clear hvi hvlt hult
            go_upto_region 12 with (first
              | (at_builtin; refine wpList_append_own1 rfl _ _ 22 rfl w4.heap.size 5 Tryd.underlying22 u8_info (.slice (some ⟨w4.heap.size, 0, none⟩) 0 0) 0 [] rfl o5 (some ⟨b, off + (k + 7), none⟩) ((xs.drop (k + 7)).take N) N hxl.out (c - (k + 7)) rfl i75 (fun x => by cases x) N (by omega) (by omega) z5 ?_; intro a5 c5 w5 hr5 hb5 hn5 hu5; have B5 : Below w4.heap.size w4 w5 := A5.trans hb5; have A6 : Below w5.heap.size w5 (w5.alloc (.cells #[.slice a5 N c5] 22)) := upd_box _; have B6 : Below w4.heap.size w4 (w5.alloc (.cells #[.slice a5 N c5] 22)) := B5.trans (A6.mono B5.size); have o6 := ownsRow_upd (S := fun _ => False) hvr (below_upd _ B6) (fun _ _ h => h); have x6 : (w5.alloc (.cells #[.slice a5 N c5] 22)).cell? ⟨w5.heap.size, 0, none⟩ = some (.slice a5 N c5) := by simp)
              | (at_builtin; refine wpList_append_elem rfl _ _ 33 rfl w.heap.size 22 (.slice none 0 0) 24 Tryd.underlying33 sl_info rfl (.slice av L.length cv) L.length vals rfl o6 (.slice a5 N c5) rfl ⟨w5.heap.size, 0, none⟩ 1 rfl x6 (L.length + 1) rfl hLm hLb (Nat.le_trans B40.size B6.size) ?_; intro a7 c7 w7 hr7 hg7 hn7))
            have hlen7 := Lib.hid hxl.out
            obtain ⟨g51, -, g53, g54, g55⟩ := bytes_of_row hr5
            rw [List.nil_append] at g51
            have q5 : ∀ y, a5 = some y → w4.heap.size ≤ y.block ∧ y.block < w5.heap.size := fun y hy => by
              subst hy
              exact ⟨own_ge hr5 rfl, own_lt hr5 rfl⟩
            have hs56 : w5.heap.size ≤ (w5.alloc (.cells #[.slice a5 N c5] 22)).heap.size := A6.size
            have hi6 : ∀ i (h : i < L.length), ∃ ad c, vals[i]? = some (.slice ad L[i].length c) ∧ IsBytes (w5.alloc (.cells #[.slice a5 N c5] 22)) ad L[i] ∧ L[i].length ≤ c ∧ c ≤ maxLen ∧ (ad = none → c = 0) ∧ ∀ x, ad = some x → E x.block := fun i h => by
              obtain ⟨ad, c', p1, p2, p3⟩ := HVI.out i h
              exact ⟨ad, c', p1, p2.below B6, p3⟩
            have hu6 := ownsRow_upd (S := fun _ => False) hu4 (below_upd _ B6) (fun _ _ h => h)
            have hsz6 := B6.size
            have hB5s := B5.size
            generalize w5.alloc (.cells #[.slice a5 N c5] 22) = W6 at *
            have R7 := RowsOf.snoc (x := (xs.drop (k + 7)).take N) (ad := a5) (c := c5) o6 hi6 (by rw [hxl.out]; exact hr7) hg7 (g51.below A6) (by rw [hxl.out]; exact g53) g54 g55 (fun y hy e => by have := HVL.out _ e; have := (q5 y hy).1; omega) (fun g hg e => (HE.out g hg).2.2.1 e)
            have hu7 := ownsRow_upd (S := fun g => (Value.slice av L.length cv).ownBlock = some g) hu6 ((Upd.refl _ _).grown hg7 (fun j hj => .inl hj)) (fun g hg hv => HVU.out g hv hg)
            have B70 : Below w.heap.size w w7 := (B40.trans (B6.mono B40.size)).grown hg7 (Nat.le_trans B40.size B6.size) (fun j hj => own_ge hvr hj)
            have hu8 := ownsRow_upd (S := fun _ => False) hu7 ((Upd.refl _ _).alloc (.cells #[.int .i64 ((k : Int) + 7 + (N : Int))] 3)) (fun _ _ h => h)
            have x8 : (w7.alloc (.cells #[.int .i64 ((k : Int) + 7 + (N : Int))] 3)).cell? ⟨w7.heap.size, 0, none⟩ = some (.int .i64 ((k : Int) + 7 + (N : Int))) := by simp
            have z8 : w.heap.size ≤ (w7.alloc (.cells #[.int .i64 ((k : Int) + 7 + (N : Int))] 3)).heap.size := by have := B70.size; simp; omega
            have B80 : Below w.heap.size w (w7.alloc (.cells #[.int .i64 ((k : Int) + 7 + (N : Int))] 3)) := B70.alloc B70.size _
            have U78 : Upd (fun _ => False) w7 (w7.alloc (.cells #[.int .i64 ((k : Int) + 7 + (N : Int))] 3)) := (Upd.refl _ _).alloc _
            have hs7 := hg7.size
            clear hr5 hb5 hn5 hu5 A6 o6 x6 hr7 hi6 hu6 A5 o5 i75 z5
            go_wp2_with (at_builtin; refine wpList_append_elem rfl _ _ 84 rfl w.heap.size 3 (.int .i64 0) 8 Tryd.underlying84 int_info rfl (.slice au L.length cu) L.length _ rfl hu8 (.int .i64 ((k : Int) + 7 + (N : Int))) rfl ⟨w7.heap.size, 0, none⟩ 1 rfl x8 (L.length + 1) rfl hLm hLb8 z8 ?_; intro a9 c9 w9 hr9 hg9 hn9)
            go_roundw
            case rel =>
              have hU : Upd (fun g => (Value.slice au L.length cu).ownBlock = some g) w7 w9 := (U78.mono (S' := fun g => (Value.slice au L.length cu).ownBlock = some g) (fun _ _ h => h.elim)).grown hg9 (fun j hj => .inl hj)
              have hvu7 : ∀ g, (Value.slice a7 (L.length + 1) c7).ownBlock = some g → ¬ (Value.slice au L.length cu).ownBlock = some g := fun g hg hug => by
                rcases hn7 g hg with h | h
                · exact HVU.out g h hug
                · have := HUL.out g hug; omega
              have heu : ∀ g, (E g ∨ ∃ y, a5 = some y ∧ y.block = g) → ¬ (Value.slice au L.length cu).ownBlock = some g := fun g hg hug => by
                rcases hg with h | ⟨y, hy, rfl⟩
                · exact (HE.out g h).2.2.2 hug
                · have := HUL.out _ hug; have := (q5 y hy).1; omega
              have hgood2 : frameAt (xs.drop k) = some ((xs.drop (k + 7)).take N) := by
                have h1 := frameAt_good (b := xs.drop k) (N := N) (by rw [hdk.out]; omega) (by rw [List.getElem?_drop, Nat.add_zero, List.getElem?_eq_getElem hlk, HM.out]) hN1.out (by rw [hdk.out]; have := HBAD.out; omega) (hgood.out.2 (by rw [HMM.out, HZ.out]; exact HMZ.out))
                rw [HDD.out] at h1
                exact h1
              have hz9 := hg9.size
              have h79 : w7.heap.size < w9.heap.size := by simp at hz9; omega
              refine ⟨k + 7 + N, by have := HBAD.out; omega, by simp, B80.grown hg9 z8 (fun j hj => own_ge hu hj), _, L ++ [(xs.drop (k + 7)).take N], R7.upd hU hvu7 heu, ?_, fun g hg => ?_, fun g hv hu9 => ?_, ?_, ?_⟩
              · rw [places_snoc, List.map_append, List.length_append]
                have e : ival (endOf 0 L + 7 + ((xs.drop (k + 7)).take N).length) = .int .i64 ((k : Int) + 7 + (N : Int)) := by
                  rw [hxl.out, ← HKI.out]; rfl
                simp only [List.map_cons, List.map_nil, e]
                exact hr9
              · have hlo : w.heap.size ≤ g ∧ g < W6.heap.size ∧ (Value.slice av L.length cv).ownBlock ≠ some g := by
                  rcases hg with h | ⟨y, hy, rfl⟩
                  · obtain ⟨p1, p2, p3, _⟩ := HE.out g h
                    exact ⟨p1, by have := B4.size; omega, p3⟩
                  · have := q5 y hy
                    have := B40.size
                    refine ⟨by omega, by omega, fun e => ?_⟩
                    have := HVL.out _ e
                    omega
                refine ⟨hlo.1, by omega, fun e => ?_, fun e => ?_⟩
                · rcases hn7 g e with h | h
                  · exact hlo.2.2 h
                  · omega
                · rcases hn9 g e with h | h
                  · exact heu g hg h
                  · simp at h; omega
              · rcases hn9 g hu9 with h | h
                · exact hvu7 g hv h
                · simp at h
                  rcases hn7 g hv with h2 | h2
                  · have := HVL.out g h2; omega
                  · omega
              · rw [endOf_snoc, hxl.out, ← HKI.out]
              · rw [HFR.out, frames_step hgood2, hxl.out, List.append_assoc]; try rfl
            case measure => simp [intOf]; omega
          · have hb1 : ((M : Int) != (Z : Int)) = true := by rw [bne_iff_ne]; omega
            have hno := Lib.hid (frameAt_sum hN1.out (fun e => hMZ (by rw [← HMM.out, ← HZ.out]; exact hgood.out.1 e)))
            clear hMZ
            go_wp2
            go_ret2
            exact ⟨_, _, rfl, HF.out.stop B4 hno.out⟩
      · have hm' : ((xs[k].toNat : Int) == 165) = false := by
          rw [beq_eq_false_iff_ne]; intro e; exact hm (UInt8.toNat_inj.1 (by show xs[k].toNat = 165; omega))
        have hno := Lib.hid (frameAt_mark (b := xs.drop k) (by rw [List.getElem?_drop, Nat.add_zero, List.getElem?_eq_getElem hlk]; intro e; injection e with e; exact hm e))
        clear hm
        go_wp2
        go_ret2
        exact ⟨_, _, rfl, HF.out.stop (Below.refl _ _) hno.out⟩
end Go.Proofs.YteipcbpkgpffjaaDoor
