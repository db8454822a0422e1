/-
  Package order: lists out of bytes. Conditions: those of each theorem.
-/
import Derived.Test.YtbiompjhenkieaaGreatOrdIn
import Derived.Test.YtbiompjhenkieaaGreatUnitX
namespace Go.Proofs.YtbiompjhenkieaaGreat
open Go.RowKit
set_option maxRecDepth 100000

/-- Things that are read into a row. -/
structure RowsIn (ty : TypeId) (sz : Nat) (w : World) (p : Nat) (S : Nat → Prop) (g n : Nat) (cs : List (Array Value)) (rest : List UInt8) (bad : Bool) (W : World) : Prop where
  inp : InAt W p S rest bad
  upd : Upd (fun k => k = p) w W
  blk : ∃ cur, W.heap[g]? = some (.cells cur ty (0, 0)) ∧ cur.size = n * sz
  row : ∀ i (h : i < cs.length), ArrAt W g (i * sz) cs[i]
  ge : w.heap.size ≤ g
  own : p < w.heap.size
  sep : ∀ k, S k → k < w.heap.size
section
variable {ty : TypeId} {sz : Nat} {w W W' : World} {p g n : Nat} {S : Nat → Prop} {cs : List (Array Value)} {rest rest' : List UInt8} {bad bad' : Bool}
theorem RowsIn.next (h : RowsIn ty sz w p S g n cs rest bad W) (hi : InAt W' p S rest' bad') (hu : Upd (fun k => k = p) W W') : RowsIn ty sz w p S g n cs rest' bad' W' := by
  have hgp : g ≠ p := by have := h.ge; have := h.own; omega
  refine ⟨hi, h.upd.trans hu (fun _ _ x => x), ?_, fun i hi => (h.row i hi).upd hu hgp, h.ge, h.own, h.sep⟩
  obtain ⟨cur, h1, h2⟩ := h.blk
  exact ⟨cur, (hu.block g (Array.getElem?_eq_some_iff.1 h1).1 hgp).trans h1, h2⟩
theorem RowsIn.there (h : RowsIn ty sz w p S g n cs rest bad W) (k : Nat) (hk : k < n) : W.there g (k * sz) sz := fun j hj => by
  obtain ⟨cur, h1, h2⟩ := h.blk
  have h3 : (k + 1) * sz ≤ n * sz := Nat.mul_le_mul_right sz hk
  rw [Nat.add_mul, Nat.one_mul] at h3
  have : k * sz + j < cur.size := by omega
  constructor
  · rw [cell_of_row W g _ cur _ _ h1, Array.getElem?_eq_getElem this]; rfl
  · simp [World.frozen?, h1]
theorem ArrAt.setCells {b o o' : Nat} {xs : Array Value} (h : ArrAt W b o xs) (vs : List Value) (hd : o + xs.size ≤ o') : ArrAt (W.setCells b o' vs) b o xs := by
  refine ⟨Nat.lt_of_lt_of_le h.lt (upd_setCells b vs o' W).size, fun j v hj => ?_⟩
  have hjs : j < xs.size := (Array.getElem?_eq_some_iff.1 hj).1
  rw [World.cell?_setCells_out b _ _ W ⟨b, o + j, none⟩ (fun _ _ => .inl (by show o + j < o'; omega))]
  exact h.cells j v hj
theorem RowsIn.put (h : RowsIn ty sz w p S g n cs rest bad W) (hcs : ∀ c ∈ cs, c.size = sz) (q : Array Value) (hq : q.size = sz) (hk : cs.length < n) : RowsIn ty sz w p S g n (cs ++ [q]) rest bad (W.setCells g (cs.length * sz) q.toList) := by
  have hgp : g ≠ p := by have := h.ge; have := h.own; omega
  have hu := upd_setCells g q.toList (cs.length * sz) W
  have hge := h.ge
  have hlt : g < W.heap.size := by obtain ⟨cur, h1, _⟩ := h.blk; exact (Array.getElem?_eq_some_iff.1 h1).1
  refine ⟨h.inp.upd hu (fun k hk e => by have := h.sep k hk; omega), h.upd.trans (hu.mono (S' := fun k => w.heap.size ≤ k) (fun k _ e => by omega)) (fun k hk e => by omega), block_setCells g _ _ _ _ _ h.blk, fun i hi => ?_, hge, h.own, h.sep⟩
  by_cases e : i = cs.length
  · subst e
    rw [List.getElem_append_right (Nat.le_refl _)]
    refine ⟨Nat.lt_of_lt_of_le hlt hu.size, fun j v hj => ?_⟩
    have hr := World.rangeAt_setCells_same W g (cs.length * sz) q.toList (by
      have h9 := h.there _ hk
      rw [← hq] at h9 ⊢
      simpa using h9)
    exact hr j v (by simpa using hj)
  · have hi2 : i < cs.length := by simp at hi; omega
    rw [List.getElem_append_left hi2]
    refine (h.row i hi2).setCells _ ?_
    rw [hcs _ (List.getElem_mem hi2)]
    have : (i + 1) * sz ≤ cs.length * sz := Nat.mul_le_mul_right sz hi2
    rw [Nat.add_mul, Nat.one_mul] at this
    omega
end
theorem store_row {P : Program} {W : World} {g o sz : Nat} (h : W.there g o sz) (vs : List Value) (hl : vs.length = sz) (h1 : ∀ v ∈ vs, v.oneCell' = true) : (storeCells ⟨g, o, none⟩ vs 0).run P W = .ok () (W.setCells g o vs) := by
  subst hl
  have := run_storeCells_cells (P := P) g o vs 0 W (fun j hj => (h j hj).1) (fun j hj => (h j hj).2) h1
  simpa using this
theorem blk_made (w : World) (z : Array Value) (sz n : Nat) (hz : z.size = sz) (t : TypeId) : ∃ cur, (w.alloc (.cells (reps z.toList z.toList 0 n).toArray t)).heap[w.heap.size]? = some (.cells cur t (0, 0)) ∧ cur.size = n * sz := by
  refine ⟨_, heap_alloc_new w _, ?_⟩
  have := reps_length (x := z.toList) (z := z.toList) (sz := sz) (k := 0) (N := n) (by simpa using hz) (by simpa using hz) (Nat.zero_le _)
  simpa using this

theorem lnsBytes_drop (qs : List Ln) (k : Nat) (h : k < qs.length) : lnsBytes (qs.drop k) = lnBytes qs[k] ++ lnsBytes (qs.drop (k + 1)) := by
  rw [List.drop_eq_getElem_cons h]
  rfl
theorem info_lnz : (Tryz.prog.info? 54).map (fun i => (i.zero, i.size, i.bytes)) = some (some (.agg #[.int .i64 0, .int .i64 0, .int .i64 0, .int .i64 0]), 4, 32) := by kernel_rfl
theorem one_lnz (l : Ln) : ∀ v ∈ l.arr.toList, v.oneCell' = true := by
  intro v hv
  simp only [Ln.arr, List.mem_cons, List.not_mem_nil, or_false] at hv
  rcases hv with rfl | rfl | rfl | rfl <;> rfl
def LinesR (w : World) (p : Nat) (S : Nat → Prop) (rest : List UInt8) (e : Ending) (w' : World) : Prop :=
  ∃ (g n : Nat) (ls : List Ln) (rest' : List UInt8) (bad' : Bool), e = .returned (.slice (some ⟨g, 0, none⟩) n n) ∧ n ≤ 255 ∧ ls.length = n ∧ w.heap.size ≤ g ∧ g < w'.heap.size ∧ (∀ i (h : i < ls.length), ArrAt w' g (i * 4) (Ln.arr ls[i])) ∧ (∀ l ∈ ls, LnFit l) ∧ InAt w' p S rest' bad' ∧ Upd (fun k => k = p) w w' ∧
    ∀ (ls0 : List Ln) r, (∀ l ∈ ls0, LnSmall l) → ls0.length < 256 → rest = [u8of ls0.length] ++ (lnsBytes ls0 ++ r) → ls = ls0 ∧ rest' = r

set_option maxHeartbeats 4000000 in
theorem ord_listLine {w : World} {p : Nat} {S : Nat → Prop} {rest : List UInt8} {bad : Bool} (h : InAt w p S rest bad) :
    Calls Tryz.prog 71 #[.pointer (some ⟨p, 0, none⟩), .func (.func 72) #[] #[]] w (LinesR w p S rest) := by
  have HC : Aside _ := in_u8t h
  have hown := Lib.hid (h.lt p h.own)
  have hsep := Lib.hid h.lt
  clear h
  go_enter Tryz.func71, Tryz.ntmps71
  go_wp2_with fail
  refine Calls.mono HC.out ?_
  rintro e w1 ⟨n, rest1, bad1, rfl, i1, u1, t1⟩
  have hn : n ≤ 255 := by have := t1.small; simp at this; omega
  have hmk := make_rows (P := Tryz.prog) w1 43 54 #[.int .i64 0, .int .i64 0, .int .i64 0, .int .i64 0] (.agg #[.int .i64 0, .int .i64 0, .int .i64 0, .int .i64 0]) 4 32 n Tryz.underlying43 info_lnz rfl (by decide) (by omega) (by omega)
  have HR : Aside (RowsIn 54 4 w p S w1.heap.size n [] rest1 bad1 (w1.alloc (.cells (reps (#[.int .i64 0, .int .i64 0, .int .i64 0, .int .i64 0] : Array Value).toList (#[.int .i64 0, .int .i64 0, .int .i64 0, .int .i64 0] : Array Value).toList 0 n).toArray 54))) :=
    ⟨i1.below (upd_box _), u1.alloc _, blk_made w1 #[.int .i64 0, .int .i64 0, .int .i64 0, .int .i64 0] 4 n rfl _, fun i hi => by simp at hi, u1.size, hown.out, hsep.out⟩
  have HQ : Hid (∀ (ls0 : List Ln) r, (∀ l ∈ ls0, LnSmall l) → ls0.length < 256 → rest = [u8of ls0.length] ++ (lnsBytes ls0 ++ r) → n = ls0.length ∧ rest1 = lnsBytes ls0 ++ r) := fun ls0 r _ h2 h3 => by
    obtain ⟨e1, e2⟩ := t1.told (ls0.length : Int) (lnsBytes ls0 ++ r) (fits_one (by omega) (by omega)) (by rw [le_one (by omega) (by omega)]; exact h3)
    exact ⟨by omega, e2⟩
  clear i1 u1 t1 HC
  go_upto_region 2 with (fail)
  clear hmk
  show Code.wp _ _ _ _ (w1.alloc (.cells (reps (#[.int .i64 0, .int .i64 0, .int .i64 0, .int .i64 0] : Array Value).toList (#[.int .i64 0, .int .i64 0, .int .i64 0, .int .i64 0] : Array Value).toList 0 n).toArray 54))
  generalize w1.alloc (.cells (reps (#[.int .i64 0, .int .i64 0, .int .i64 0, .int .i64 0] : Array Value).toList (#[.int .i64 0, .int .i64 0, .int .i64 0, .int .i64 0] : Array Value).toList 0 n).toArray 54) = w3 at *
  generalize w1.heap.size = g at *
  go_wp2
  go_loopw [12] (fun i wr => ∃ (k : Nat) (ls : List Ln) (rest4 : List UInt8) (bad4 : Bool), k ≤ n ∧ i = .int .i64 k ∧ Aside (RowsIn 54 4 w p S g n (ls.map Ln.arr) rest4 bad4 wr) ∧ Hid (ls.length = k ∧ (∀ l ∈ ls, LnFit l) ∧ ∀ (ls0 : List Ln) r, (∀ l ∈ ls0, LnSmall l) → ls0.length < 256 → rest = [u8of ls0.length] ++ (lnsBytes ls0 ++ r) → n = ls0.length ∧ ls = ls0.take k ∧ rest4 = lnsBytes (ls0.drop k) ++ r)) (fun i _ => n - (intOf i).toNat)
  case atStart => exact ⟨0, [], _, _, Nat.zero_le _, rfl, HR.out, rfl, fun l hl => by simp at hl, fun ls0 r h1 h2 h3 => ⟨(HQ.out ls0 r h1 h2 h3).1, rfl, (HQ.out ls0 r h1 h2 h3).2⟩⟩
  case round =>
    clear HR HQ
    obtain ⟨k, ls, rest4, bad4, hk, rfl, HR, HK⟩ := hrel
    by_cases hlt : k < n
    · have hkn : (k : Int) < (n : Int) := by omega
      have HC : Aside _ := ord_readLine HR.out.inp
      go_wp2_with fail
      refine Calls.mono HC.out ?_
      rintro e w6 ⟨q, rest5, bad5, rfl, f2, i2, u2, t2⟩
      have R6 : Aside _ := HR.out.next i2 u2
      have T2 : Hid (∀ (l0 : Ln) r, LnSmall l0 → rest4 = lnBytes l0 ++ r → q = l0 ∧ rest5 = r) := t2
      have hpl := HK.out.1
      have hst := store_row (P := Tryz.prog) (R6.out.there k hlt) (Ln.arr q).toList rfl (one_lnz q)
      have R7 : Aside (RowsIn 54 4 w p S g n ((ls ++ [q]).map Ln.arr) rest5 bad5 (w6.setCells g (k * 4) (Ln.arr q).toList)) := by
        have := R6.out.put (fun c hc => by obtain ⟨x, _, rfl⟩ := List.mem_map.1 hc; rfl) (Ln.arr q) rfl (by rw [List.length_map]; omega)
        rw [List.length_map, hpl] at this
        rw [List.map_append]
        exact this
      have HK7 : Hid ((ls ++ [q]).length = k + 1 ∧ (∀ l ∈ ls ++ [q], LnFit l) ∧ ∀ (ls0 : List Ln) r, (∀ l ∈ ls0, LnSmall l) → ls0.length < 256 → rest = [u8of ls0.length] ++ (lnsBytes ls0 ++ r) → n = ls0.length ∧ ls ++ [q] = ls0.take (k + 1) ∧ rest5 = lnsBytes (ls0.drop (k + 1)) ++ r) := by
        refine ⟨by rw [List.length_append, hpl]; rfl, fun l hl => ?_, fun ls0 r h1 h2 h3 => ?_⟩
        · rcases List.mem_append.1 hl with hl | hl
          · exact HK.out.2.1 l hl
          · rw [List.mem_singleton.1 hl]; exact f2
        · obtain ⟨e1, e2, e3⟩ := HK.out.2.2 ls0 r h1 h2 h3
          have hkq : k < ls0.length := by omega
          obtain ⟨e4, e5⟩ := T2.out ls0[k] (lnsBytes (ls0.drop (k + 1)) ++ r) (h1 _ (List.getElem_mem hkq)) (by rw [e3, lnsBytes_drop ls0 k hkq, List.append_assoc])
          exact ⟨e1, by rw [List.take_succ_eq_append_getElem hkq, ← e2, e4], e5⟩
      clear HC i2 u2 t2 T2 HK HR R6 hpl f2
      go_wp2
      go_roundw
      case rel => exact ⟨k + 1, _, _, _, by omega, by go_num, R7.out, HK7.out⟩
      case measure => simp [intOf]; omega
    · obtain rfl : k = n := by omega
      obtain ⟨hpl, hf, hk2⟩ := HK.out
      have HK3 := Lib.hid hk2
      have HPL := Lib.hid hpl
      have HF := Lib.hid hf
      clear HK hpl hk2 hf
      go_wp2
      go_ret
      obtain ⟨cur, hb1, -⟩ := HR.out.blk
      refine ⟨g, k, ls, rest4, bad4, rfl, hn, HPL.out, HR.out.ge, (Array.getElem?_eq_some_iff.1 hb1).1, fun i hi => ?_, HF.out, HR.out.inp, HR.out.upd, fun ls0 r h1 h2 h3 => ?_⟩
      · have := HR.out.row i (by rw [List.length_map]; exact hi)
        rwa [List.getElem_map] at this
      · obtain ⟨e1, e2, e3⟩ := HK3.out ls0 r h1 h2 h3
        rw [e1, List.take_length] at e2
        rw [e1, List.drop_length] at e3
        exact ⟨e2, by rw [e3]; rfl⟩

theorem supsBytes_drop (qs : List Sup) (k : Nat) (h : k < qs.length) : supsBytes (qs.drop k) = supBytes qs[k] ++ supsBytes (qs.drop (k + 1)) := by
  rw [List.drop_eq_getElem_cons h]
  rfl
theorem info_supz : (Tryz.prog.info? 42).map (fun i => (i.zero, i.size, i.bytes)) = some (some (.agg #[.int .i64 0, .int .i64 0, .int .i64 0]), 3, 24) := by kernel_rfl
theorem one_supz (l : Sup) : ∀ v ∈ l.arr.toList, v.oneCell' = true := by
  intro v hv
  simp only [Sup.arr, List.mem_cons, List.not_mem_nil, or_false] at hv
  rcases hv with rfl | rfl | rfl <;> rfl
def SupsR (w : World) (p : Nat) (S : Nat → Prop) (rest : List UInt8) (e : Ending) (w' : World) : Prop :=
  ∃ (g n : Nat) (ls : List Sup) (rest' : List UInt8) (bad' : Bool), e = .returned (.slice (some ⟨g, 0, none⟩) n n) ∧ n ≤ 255 ∧ ls.length = n ∧ w.heap.size ≤ g ∧ g < w'.heap.size ∧ (∀ i (h : i < ls.length), ArrAt w' g (i * 3) (Sup.arr ls[i])) ∧ (∀ l ∈ ls, SupFit l) ∧ InAt w' p S rest' bad' ∧ Upd (fun k => k = p) w w' ∧
    ∀ (ls0 : List Sup) r, (∀ l ∈ ls0, SupSmall l) → ls0.length < 256 → rest = [u8of ls0.length] ++ (supsBytes ls0 ++ r) → ls = ls0 ∧ rest' = r

set_option maxHeartbeats 4000000 in
theorem ord_listSupply {w : World} {p : Nat} {S : Nat → Prop} {rest : List UInt8} {bad : Bool} (h : InAt w p S rest bad) :
    Calls Tryz.prog 48 #[.pointer (some ⟨p, 0, none⟩), .func (.func 49) #[] #[]] w (SupsR w p S rest) := by
  have HC : Aside _ := in_u8t h
  have hown := Lib.hid (h.lt p h.own)
  have hsep := Lib.hid h.lt
  clear h
  go_enter Tryz.func48, Tryz.ntmps48
  go_wp2_with fail
  refine Calls.mono HC.out ?_
  rintro e w1 ⟨n, rest1, bad1, rfl, i1, u1, t1⟩
  have hn : n ≤ 255 := by have := t1.small; simp at this; omega
  have hmk := make_rows (P := Tryz.prog) w1 23 42 #[.int .i64 0, .int .i64 0, .int .i64 0] (.agg #[.int .i64 0, .int .i64 0, .int .i64 0]) 3 24 n Tryz.underlying23 info_supz rfl (by decide) (by omega) (by omega)
  have HR : Aside (RowsIn 42 3 w p S w1.heap.size n [] rest1 bad1 (w1.alloc (.cells (reps (#[.int .i64 0, .int .i64 0, .int .i64 0] : Array Value).toList (#[.int .i64 0, .int .i64 0, .int .i64 0] : Array Value).toList 0 n).toArray 42))) :=
    ⟨i1.below (upd_box _), u1.alloc _, blk_made w1 #[.int .i64 0, .int .i64 0, .int .i64 0] 3 n rfl _, fun i hi => by simp at hi, u1.size, hown.out, hsep.out⟩
  have HQ : Hid (∀ (ls0 : List Sup) r, (∀ l ∈ ls0, SupSmall l) → ls0.length < 256 → rest = [u8of ls0.length] ++ (supsBytes ls0 ++ r) → n = ls0.length ∧ rest1 = supsBytes ls0 ++ r) := fun ls0 r _ h2 h3 => by
    obtain ⟨e1, e2⟩ := t1.told (ls0.length : Int) (supsBytes ls0 ++ r) (fits_one (by omega) (by omega)) (by rw [le_one (by omega) (by omega)]; exact h3)
    exact ⟨by omega, e2⟩
  clear i1 u1 t1 HC
  go_upto_region 2 with (fail)
  clear hmk
  show Code.wp _ _ _ _ (w1.alloc (.cells (reps (#[.int .i64 0, .int .i64 0, .int .i64 0] : Array Value).toList (#[.int .i64 0, .int .i64 0, .int .i64 0] : Array Value).toList 0 n).toArray 42))
  generalize w1.alloc (.cells (reps (#[.int .i64 0, .int .i64 0, .int .i64 0] : Array Value).toList (#[.int .i64 0, .int .i64 0, .int .i64 0] : Array Value).toList 0 n).toArray 42) = w3 at *
  generalize w1.heap.size = g at *
  go_wp2
  go_loopw [12] (fun i wr => ∃ (k : Nat) (ls : List Sup) (rest4 : List UInt8) (bad4 : Bool), k ≤ n ∧ i = .int .i64 k ∧ Aside (RowsIn 42 3 w p S g n (ls.map Sup.arr) rest4 bad4 wr) ∧ Hid (ls.length = k ∧ (∀ l ∈ ls, SupFit l) ∧ ∀ (ls0 : List Sup) r, (∀ l ∈ ls0, SupSmall l) → ls0.length < 256 → rest = [u8of ls0.length] ++ (supsBytes ls0 ++ r) → n = ls0.length ∧ ls = ls0.take k ∧ rest4 = supsBytes (ls0.drop k) ++ r)) (fun i _ => n - (intOf i).toNat)
  case atStart => exact ⟨0, [], _, _, Nat.zero_le _, rfl, HR.out, rfl, fun l hl => by simp at hl, fun ls0 r h1 h2 h3 => ⟨(HQ.out ls0 r h1 h2 h3).1, rfl, (HQ.out ls0 r h1 h2 h3).2⟩⟩
  case round =>
    clear HR HQ
    obtain ⟨k, ls, rest4, bad4, hk, rfl, HR, HK⟩ := hrel
    by_cases hlt : k < n
    · have hkn : (k : Int) < (n : Int) := by omega
      have HC : Aside _ := ord_readSupply HR.out.inp
      go_wp2_with fail
      refine Calls.mono HC.out ?_
      rintro e w6 ⟨q, rest5, bad5, rfl, f2, i2, u2, t2⟩
      have R6 : Aside _ := HR.out.next i2 u2
      have T2 : Hid (∀ (l0 : Sup) r, SupSmall l0 → rest4 = supBytes l0 ++ r → q = l0 ∧ rest5 = r) := t2
      have hpl := HK.out.1
      have hst := store_row (P := Tryz.prog) (R6.out.there k hlt) (Sup.arr q).toList rfl (one_supz q)
      have R7 : Aside (RowsIn 42 3 w p S g n ((ls ++ [q]).map Sup.arr) rest5 bad5 (w6.setCells g (k * 3) (Sup.arr q).toList)) := by
        have := R6.out.put (fun c hc => by obtain ⟨x, _, rfl⟩ := List.mem_map.1 hc; rfl) (Sup.arr q) rfl (by rw [List.length_map]; omega)
        rw [List.length_map, hpl] at this
        rw [List.map_append]
        exact this
      have HK7 : Hid ((ls ++ [q]).length = k + 1 ∧ (∀ l ∈ ls ++ [q], SupFit l) ∧ ∀ (ls0 : List Sup) r, (∀ l ∈ ls0, SupSmall l) → ls0.length < 256 → rest = [u8of ls0.length] ++ (supsBytes ls0 ++ r) → n = ls0.length ∧ ls ++ [q] = ls0.take (k + 1) ∧ rest5 = supsBytes (ls0.drop (k + 1)) ++ r) := by
        refine ⟨by rw [List.length_append, hpl]; rfl, fun l hl => ?_, fun ls0 r h1 h2 h3 => ?_⟩
        · rcases List.mem_append.1 hl with hl | hl
          · exact HK.out.2.1 l hl
          · rw [List.mem_singleton.1 hl]; exact f2
        · obtain ⟨e1, e2, e3⟩ := HK.out.2.2 ls0 r h1 h2 h3
          have hkq : k < ls0.length := by omega
          obtain ⟨e4, e5⟩ := T2.out ls0[k] (supsBytes (ls0.drop (k + 1)) ++ r) (h1 _ (List.getElem_mem hkq)) (by rw [e3, supsBytes_drop ls0 k hkq, List.append_assoc])
          exact ⟨e1, by rw [List.take_succ_eq_append_getElem hkq, ← e2, e4], e5⟩
      clear HC i2 u2 t2 T2 HK HR R6 hpl f2
      go_wp2
      go_roundw
      case rel => exact ⟨k + 1, _, _, _, by omega, by go_num, R7.out, HK7.out⟩
      case measure => simp [intOf]; omega
    · obtain rfl : k = n := by omega
      obtain ⟨hpl, hf, hk2⟩ := HK.out
      have HK3 := Lib.hid hk2
      have HPL := Lib.hid hpl
      have HF := Lib.hid hf
      clear HK hpl hk2 hf
      go_wp2
      go_ret
      obtain ⟨cur, hb1, -⟩ := HR.out.blk
      refine ⟨g, k, ls, rest4, bad4, rfl, hn, HPL.out, HR.out.ge, (Array.getElem?_eq_some_iff.1 hb1).1, fun i hi => ?_, HF.out, HR.out.inp, HR.out.upd, fun ls0 r h1 h2 h3 => ?_⟩
      · have := HR.out.row i (by rw [List.length_map]; exact hi)
        rwa [List.getElem_map] at this
      · obtain ⟨e1, e2, e3⟩ := HK3.out ls0 r h1 h2 h3
        rw [e1, List.take_length] at e2
        rw [e1, List.drop_length] at e3
        exact ⟨e2, by rw [e3]; rfl⟩
end Go.Proofs.YtbiompjhenkieaaGreat
