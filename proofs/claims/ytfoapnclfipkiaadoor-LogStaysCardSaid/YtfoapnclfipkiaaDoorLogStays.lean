/-
  LogStays: whatever is appended, and compacted, and wherever the power goes, a log that is opened has all that was answered OK, and with it, or not, what the one call that wasn't was to do; opened twice it has the same; tied to the program's text. No conditions: every input.
-/
import Derived.Test.YtfoapnclfipkiaaDoorLogStay
import Derived.Test.YtfoapnclfipkiaaDoorLogAwake
import Derived.Test.YtfoapnclfipkiaaDoorLawLaid
import Derived.Test.YtfoapnclfipkiaaDoorDiskF
import Derived.Test.YtfoapnclfipkiaaDoorCards
import Derived.Test.YtfoapnclfipkiaaDoorTie
import Derived.SevenTiedAt
import Derived.Deep.DeepCutAuto
namespace Go.Proofs.YtfoapnclfipkiaaDoor
open Go.RowKit Go.WideShapes
set_option maxRecDepth 100000

/-- An append of a row of one-cell values at an operation of a region that draws its order. -/
theorem step_append_vals {P : Program} {w : World} {ops : Array Oper} {o : Oper} {act : Act} {K : Act → World → Prop} {Q : Exit → Act → World → Prop} {E : Prop} (hgd : o.guard = none) (s x : Operand) (t : TypeId)
    (ho : o.op = .call { callee := .builtin .append, args := #[s, x], argTypes := #[t, t] })
    (base : Nat) (e : TypeId) (z : Value) (bytes : Nat) (ht : P.underlying t = some (.slice e)) (hi : (P.info? e).map (fun i => (i.zero, i.size, i.bytes)) = some (some z, 1, bytes)) (hz : z.cells.size = 1)
    (v : Value) (n : Nat) (xs : List Value) (hs : act.eval s = v) (hown : w.ownsRow base e 1 v n xs) (ad : Option Addr) (m c : Nat) (vals : List Value) (hx : act.eval x = .slice ad m c) (hl : vals.length = m)
    (hc : ad = none ∧ m = 0 ∧ c = 0 ∨ ∃ a, ad = some a ∧ ∀ j u, vals[j]? = some u → w.cell? (a.add j) = some u) (hu : ∀ u ∈ vals, u.oneCell' = true)
    (h63 : n + m ≤ maxLen) (hbytes : (n + m) * bytes ≤ 140737488355328) (hbase : base ≤ w.heap.size)
    (h : ∀ a' c' w', w'.ownsRow base e 1 (.slice a' (n + m) c') (n + m) (xs ++ vals) → w.grownBy w' v.ownBlock → (∀ g, (Value.slice a' (n + m) c').ownBlock = some g → v.ownBlock = some g ∨ g = w.heap.size) → K (act.put o.dst (.slice a' (n + m) c')) w') :
    if Region.wanted o (yielded ops act.tmps) = true then Oper.wp P o act w K Q else E := by
  rw [if_pos (by simp [Region.wanted, hgd])]
  obtain ⟨i, hi0, hz0, hsize, hby⟩ := info_parts hi
  rcases hc with ⟨rfl, rfl, rfl⟩ | ⟨a, rfl, hc⟩
  · have hrun := run_append_owned_none (P := P) (w := w) base t o.type e i 1 ht hi0 v n xs hown
    have hv' : ∃ a' c', v = .slice a' n c' := by
      rcases hown.2 with ⟨hv, hn⟩ | ⟨g, cap, cur, hv, _⟩
      · exact ⟨none, 0, by rw [hv, hn]⟩
      · exact ⟨_, _, hv⟩
    obtain ⟨a', c', rfl⟩ := hv'
    obtain rfl : vals = [] := List.length_eq_zero_iff.1 hl
    unfold Oper.wp execOp
    simp only [ho, resolve, invoke, builtin, Sem.run_bind, Sem.run_pure, Result.andThen_ok, List.map_toArray, List.map_cons, List.map_nil, hs, hx, hrun]
    exact h a' c' w (by simpa using hown) ⟨rfl, rfl, rfl, Nat.le_refl _, fun _ _ _ => rfl⟩ (fun g hg => .inl hg)
  · obtain ⟨a', c', w', hr, h2, h3, h4⟩ := run_append_full (P := P) w base t o.type e i z 1 bytes ht hi0 hz0 hsize hby hz (by decide) v n xs hown a m c vals (by rw [hl, Nat.mul_one]) hc hu h63 hbytes hbase
    unfold Oper.wp execOp
    simp only [ho, resolve, invoke, builtin, Sem.run_bind, Sem.run_pure, Result.andThen_ok, List.map_toArray, List.map_cons, List.map_nil, hs, hx, hr]
    exact h a' c' w' h2 h3 h4

/-- An image: a slice of the arguments. -/
def ImgArg (w : World) (v : Value) (im : List UInt8) : Prop := ∃ a n c, v = .slice a n c ∧ im.length = n ∧ IsBytes w a im ∧ n ≤ c ∧ c ≤ maxLen ∧ (a = none → c = 0)
/-- Records: a row of the law's own, of slices of the arguments. -/
def RowHeld (w wr : World) (S T : Nat → Prop) (v : Value) (R : List (List UInt8)) : Prop :=
  ∃ a n c, v = .slice a n c ∧ R.length = n ∧ (a = none → n = 0 ∧ c = 0) ∧ (R = [] ∧ (a = none ∨ ∃ g, a = some ⟨g, 0, none⟩) ∨ ∃ g, a = some ⟨g, 0, none⟩ ∧ w.heap.size ≤ g ∧ g < wr.heap.size ∧ ¬ S g ∧ ¬ T g ∧
    ∀ i (h : i < R.length), ∃ ad c, wr.cell? ⟨g, i, none⟩ = some (.slice ad R[i].length c) ∧ IsBytes w ad R[i] ∧ R[i].length ≤ c ∧ c ≤ maxLen ∧ (ad = none → c = 0))
theorem RowHeld.nil (w wr : World) (S T : Nat → Prop) : RowHeld w wr S T (.slice none 0 0) [] := ⟨none, 0, 0, rfl, rfl, fun _ => ⟨rfl, rfl⟩, .inl ⟨rfl, .inl rfl⟩⟩
theorem RowHeld.lists {w wr : World} {S T : Nat → Prop} {a : Option Addr} {n c : Nat} {R : List (List UInt8)} (h : RowHeld w wr S T (.slice a n c) R) (hb : Below w.heap.size w wr) : R.length = n ∧ ListsAt wr a R := by
  obtain ⟨a', n', c', e, h1, _, h2⟩ := h
  injection e with e1 e2 e3
  subst e1 e2 e3
  refine ⟨h1, ?_⟩
  rcases h2 with ⟨h2, _⟩ | ⟨g, rfl, _, h4, _, _, h5⟩
  · exact .inl h2
  · refine .inr ⟨g, 0, rfl, h4, fun i hi => ?_⟩
    obtain ⟨ad, c, q1, q2, q3⟩ := h5 i hi
    exact ⟨ad, c, by rw [Nat.zero_add]; exact q1, q2.below hb, q3⟩
theorem RowHeld.upd {w wr wr' : World} {S T S' T' U : Nat → Prop} {v : Value} {R : List (List UInt8)} (h : RowHeld w wr S T v R) (u : Upd U wr wr') (hU : ∀ g, g < wr.heap.size → ¬ S g → ¬ T g → w.heap.size ≤ g → ¬ U g ∧ ¬ S' g ∧ ¬ T' g) : RowHeld w wr' S' T' v R := by
  obtain ⟨a, n, c, e, h1, h0, h2⟩ := h
  refine ⟨a, n, c, e, h1, h0, ?_⟩
  rcases h2 with h2 | ⟨g, rfl, h3, h4, h5, h6, h7⟩
  · exact .inl h2
  · obtain ⟨q1, q2, q3⟩ := hU g h4 h5 h6 h3
    refine .inr ⟨g, rfl, h3, Nat.lt_of_lt_of_le h4 u.size, q2, q3, fun i hi => ?_⟩
    obtain ⟨ad, c, k1, k2⟩ := h7 i hi
    exact ⟨ad, c, (u.cell (p := ⟨g, i, none⟩) h4 q1).trans k1, k2⟩
theorem RowHeld.below {w wr wr' : World} {S T : Nat → Prop} {v : Value} {R : List (List UInt8)} (h : RowHeld w wr S T v R) (hb : Below wr.heap.size wr wr') : RowHeld w wr' S T v R :=
  h.upd (U := fun _ => False) (below_upd _ hb) (fun _ _ a b _ => ⟨fun h => h, a, b⟩)
theorem RowHeld.went {w wr wr' : World} {S T S' T' : Nat → Prop} {v : Value} {R : List (List UInt8)} (h : RowHeld w wr S T v R) (g : Went wr S T wr' S' T') : RowHeld w wr' S' T' v R :=
  h.upd g.upd (fun k hk a b _ => ⟨fun x => x.elim a b, fun x => (g.s k x).elim a (fun y => by omega), fun x => (g.t k x).elim b (fun y => by omega)⟩)

/-- Where the script has come: the log is alive, and has what is told, or it is over, and the power is gone. -/
def Stands (D : DM) (L : LM) (im : List UInt8) (R : List (List UInt8)) (im' : List UInt8) (R' : List (List UInt8)) : Prop :=
  (Alive D L ∧ L.image = im ∧ L.recs = R) ∨ (L.over = true ∧ Torn D im R im' R')
theorem own_none (w : World) : (w.alloc (.cells #[] 22)).ownsRow w.heap.size 22 1 (.slice (some ⟨w.heap.size, 0, none⟩) 0 0) 0 [] :=
  World.ownsRow_made w #[] 0 (Nat.le_refl _) (Nat.zero_le _) rfl
/-- The values of a row of records. -/
theorem RowHeld.vals {w wr : World} {S T : Nat → Prop} {a : Option Addr} {n c : Nat} {R : List (List UInt8)} (h : RowHeld w wr S T (.slice a n c) R) :
    ∃ vals : List Value, vals.length = n ∧ (∀ u ∈ vals, u.oneCell' = true) ∧ (∀ wx, Below wr.heap.size wr wx → (a = none ∧ n = 0 ∧ c = 0 ∨ ∃ x, a = some x ∧ ∀ j u, vals[j]? = some u → wx.cell? (x.add j) = some u)) ∧
      ∀ i (h : i < R.length), ∃ ad c, vals[i]? = some (.slice ad R[i].length c) ∧ IsBytes w ad R[i] ∧ R[i].length ≤ c ∧ c ≤ maxLen ∧ (ad = none → c = 0) := by
  obtain ⟨a', n', c', e, h1, h0, h2⟩ := h
  injection e with e1 e2 e3
  subst e1 e2 e3
  rcases h2 with ⟨rfl, h2⟩ | ⟨g, rfl, _, h4, _, _, h5⟩
  · have hn : n = 0 := by rw [← h1]; rfl
    subst hn
    refine ⟨[], rfl, (fun u hu => by cases hu), fun wx _ => ?_, fun i hi => by simp at hi⟩
    rcases h2 with h2 | ⟨g, h2⟩
    · exact .inl ⟨h2, rfl, (h0 h2).2⟩
    · exact .inr ⟨_, h2, fun j u hu => by simp at hu⟩
  · have key : ∀ i, i < n → ∃ v, wr.cell? ⟨g, i, none⟩ = some v ∧ v.oneCell' = true := fun i hi => by
      obtain ⟨ad, c, q1, _⟩ := h5 i (by omega)
      exact ⟨_, q1, rfl⟩
    refine ⟨(List.range n).map fun i => (wr.cell? ⟨g, i, none⟩).getD (.bool true), by simp, fun u hu => ?_, fun wx hb => .inr ⟨_, rfl, fun j u hu => ?_⟩, fun i hi => ?_⟩
    · obtain ⟨i, hi, rfl⟩ := List.mem_map.1 hu
      obtain ⟨v, hv, h1⟩ := key i (List.mem_range.1 hi)
      rw [hv]
      exact h1
    · rw [List.getElem?_map] at hu
      obtain ⟨i, hi, rfl⟩ := Option.map_eq_some_iff.1 hu
      obtain ⟨hj, rfl⟩ := List.getElem?_eq_some_iff.1 hi
      simp only [List.length_range] at hj
      simp only [List.getElem_range]
      obtain ⟨v, hv, _⟩ := key j hj
      have hadd : (⟨g, 0, none⟩ : Addr).add j = ⟨g, j, none⟩ := by unfold Addr.add; split <;> simp_all
      rw [hadd, hv]
      exact (hb.cell (p := ⟨g, j, none⟩) h4).trans hv
    · obtain ⟨ad, c, q1, q2⟩ := h5 i hi
      refine ⟨ad, c, ?_, q2⟩
      rw [List.getElem?_map, List.getElem?_range (by omega)]
      simp [q1]
/-- A row that was made of them and one more. -/
theorem RowHeld.made {w wr wx : World} {S T : Nat → Prop} {a ad : Option Addr} {n c cc : Nat} {R : List (List UInt8)} {vals : List Value} {ys : List UInt8} (hn : R.length = n) (hwr : w.heap.size ≤ wr.heap.size) (hS : ∀ k, S k → k < wr.heap.size) (hT : ∀ k, T k → k < wr.heap.size)
    (hv : vals.length = n) (hi : ∀ i (h : i < R.length), ∃ ad c, vals[i]? = some (.slice ad R[i].length c) ∧ IsBytes w ad R[i] ∧ R[i].length ≤ c ∧ c ≤ maxLen ∧ (ad = none → c = 0))
    (hr : wx.ownsRow wr.heap.size 22 1 (.slice a (n + 1) c) (n + 1) (vals ++ [.slice ad ys.length cc])) (hy : IsBytes w ad ys) (hc : ys.length ≤ cc) (hcm : cc ≤ maxLen) (hnil : ad = none → cc = 0) :
    RowHeld w wx S T (.slice a (n + 1) c) (R ++ [ys]) := by
  rcases hr.2 with ⟨_, h0⟩ | ⟨g, cap, cur, hv2, hb, hg, _, _, _, ht⟩
  · omega
  · injection hv2 with e1 _ _
    subst e1
    refine ⟨_, _, _, rfl, by rw [List.length_append, hn]; rfl, (fun h => by cases h), .inr ⟨g, rfl, Nat.le_trans hwr hb, (Array.getElem?_eq_some_iff.1 hg).1, fun h => by have := hS g h; omega, fun h => by have := hT g h; omega, fun i hlt => ?_⟩⟩
    have hcell : ∀ (v : Value), (vals ++ [.slice ad ys.length cc])[i]? = some v → wx.cell? ⟨g, i, none⟩ = some v := fun v hvv => by
      rw [cell_of_row wx g i cur _ (0, 0) hg]
      rw [← ht, List.getElem?_take] at hvv
      split at hvv
      · simpa using hvv
      · cases hvv
    by_cases hlast : i < R.length
    · obtain ⟨ad', c', q1, q2⟩ := hi i hlast
      refine ⟨ad', c', hcell _ ?_, ?_⟩
      · rw [List.getElem?_append_left (by omega), List.getElem_append_left hlast]; exact q1
      · rw [List.getElem_append_left hlast]; exact q2
    · obtain rfl : i = R.length := by simp at hlt; omega
      refine ⟨ad, cc, hcell _ ?_, ?_⟩
      · rw [List.getElem?_append_right (by omega), show R.length - vals.length = 0 by omega]; simp
      · simp only [List.getElem_append_right (Nat.le_refl _), Nat.sub_self, List.getElem_cons_zero]
        exact ⟨hy, hc, hcm, hnil⟩

theorem Stands.fuse {D : DM} {L : LM} {im im' : List UInt8} {R R' : List (List UInt8)} (h : Stands D L im R im' R') (z : Int) : Stands (D.lightUp z).2 L im R im' R' := by
  unfold DM.lightUp
  by_cases h1 : D.lost = true
  · rw [if_pos h1]; exact h
  · rw [if_neg h1]
    by_cases h2 : z < 0
    · rw [if_pos h2]; exact h
    · rw [if_neg h2]
      rcases h with ⟨a, b, c⟩ | ⟨_, t⟩
      · exact .inl ⟨⟨a.lost, a.over, a.fl, a.has, a.b, a.safe, a.good, a.im, a.gen, a.oth, a.osafe, a.tidy⟩, b, c⟩
      · exact (h1 t.lost).elim
/-- What is found when the power has come back. -/
theorem Stands.back {D : DM} {L : LM} {im im' : List UInt8} {R R' : List (List UInt8)} (h : Stands D L im R im' R') (ht : Tidy D) (keep : Nat → Int) : ∃ fl g, Found (D.restart keep) fl g im R ∨ Found (D.restart keep) fl g im' R' := by
  rcases h with ⟨a, b, c⟩ | ⟨_, t⟩
  · have := a.found.restart keep
    rw [b, c] at this
    exact ⟨_, _, .inl this⟩
  · exact t.back ht keep
/-- Between two rounds of LogStays. -/
structure Stay (w wr : World) (p q : Nat) (was rec nxt mor : Value) (k : Nat) : Prop where
  below : Below w.heap.size w wr
  mem : ∃ S T D L im R im' R', Both wr w.heap.size p q S T D L ∧ ImgArg w was im ∧ ImgArg w nxt im' ∧ RowHeld w wr S T rec R ∧ RowHeld w wr S T mor R' ∧ R.length ≤ k ∧ R'.length ≤ k ∧ L.recs.length ≤ k ∧ Stands D L im R im' R'

theorem fresh_alive {D : DM} {im : List UInt8} (hf : D.f = fupd (fun _ => FM.gone) 1 (freshFile 1 im)) (hl : D.lost = false) (hi : im.length ≤ 59996) : Alive D ⟨1, 1, im, [], false⟩ := by
  have a1 : D.f 1 = freshFile 1 im := by rw [hf, fupd_same]
  have a2 : D.f 2 = FM.gone := by rw [hf, fupd_other (by omega)]
  refine ⟨hl, rfl, .inl rfl, by show (D.f 1).has = true; rw [a1]; rfl, by show (D.f 1).b = _; rw [a1]; exact (logF_one 1 im).symm, by show (D.f 1).safe = (D.f 1).b.length; rw [a1]; rfl, (fun x hx => by cases hx), hi, by show 1 ≤ 1 ∧ 1 < 4294967296; omega, ?_, by show (D.f 2).safe = (D.f 2).b.length; rw [a2]; rfl, fun f hf8 hh => ?_⟩
  · show genOf (D.f 2).b < 1
    rw [a2, show FM.gone.b = [] from rfl, genOf_none (by decide)]
    omega
  · rw [hf] at hh ⊢
    unfold fupd at hh ⊢
    by_cases e : f = 1
    · rw [if_pos e] at hh; cases hh
    · rw [if_neg e]

/-- Compact never adds to the records. -/
theorem compact_recs (D : DM) (L : LM) (im : List UInt8) : (logCompact D L im).2.2.recs.length ≤ L.recs.length := by
  unfold logCompact
  repeat' split
  all_goals first | exact Nat.le_refl _ | exact Nat.zero_le _
theorem info_op11' : (Tryd.prog.info? 36).map (·.size) = some 11 := by kernel_rfl

set_option maxHeartbeats 8000000 in
theorem stays_near (cap : Nat) (a1 a2 : Option Addr) (im : List UInt8) (xs : List Ov) (n1 c1 n c : Nat) (w : World) (hH : HalvesAt w) (hcap : cap ≤ 1048576) (hn1 : im.length = n1) (hx1 : IsBytes w a1 im) (hc1 : n1 ≤ c1) (hcm1 : c1 ≤ maxLen) (hnc1 : a1 = none → c1 = 0)
    (hn : xs.length = n) (hx : Ops w a2 xs) (h50 : n1 ≤ 5000) :
    Calls Tryd.prog 3 #[.int .i64 (cap : Int), .slice a1 n1 c1, .slice a2 n c] w fun e w' => e = .returned (.bool true) ∧ Below w.heap.size w w' := by
  have h50' : ¬ (5000 : Int) < (n1 : Int) := by omega
  have HH := Lib.hid hH
  have HN1 := Lib.hid hn1
  have HN := Lib.hid hn
  have HX1 := Lib.hid hx1
  have HL1 := Lib.hid hx1.lt
  have HIM : Hid (ImgArg w (.slice a1 n1 c1) im) := ⟨a1, n1, c1, rfl, hn1, hx1, hc1, hcm1, hnc1⟩
  clear hH hn1 hx1 hn
  go_enter Tryd.func3, Tryd.ntmps3
  go_wp2_with fail
  refine (log_awake _ HH.out).mono ?_
  rintro e w1 ⟨rfl, b1⟩
  go_wp2_with fail
  refine (few_log a2 xs n c w w1 HN.out hx b1).mono ?_
  rintro e w2 ⟨v, rfl, rfl, hv⟩
  have HV := Lib.hid hv
  clear hv
  cases v
  · go_wp2_with fail
    refine (log_awake _ (HH.out.below b1)).mono ?_
    rintro e w2 ⟨rfl, b2⟩
    go_wp2
    go_ret
    exact ⟨rfl, b1.trans (b2.mono b1.size)⟩
  · have h40 : n ≤ 40 := HV.out rfl
    go_wp2_with fail
    refine (new_in cap w1 hcap).mono ?_
    rintro e w2 ⟨rfl, ⟨V, h2⟩, b2, s2⟩
    have B2 := b1.trans (b2.mono b1.size)
    have HB1 := Lib.hid b1.size
    have HC := Lib.hid (log_create (B := w.heap.size) h2 (HH.out.below B2) (fun k hk => by have h9 : k = w1.heap.size := hk; have := b1.size; omega) a1 im n1 c1 HN1.out (HX1.out.below B2) hnc1 (fun h0 x hx e => by
      have h9 : x.block = w1.heap.size := e
      have := HL1.out h0 x hx
      have := b1.size
      omega))
    have HB2 := Lib.hid B2
    have HCN := Lib.hid (create_new cap im)
    obtain ⟨r, hr⟩ : ∃ r, logCreate (DM.new cap) im = r := ⟨_, rfl⟩
    rw [hr] at HC HCN
    clear hr h2 s2 B2 b1 b2 hnc1
    go_wp2_with fail
    refine HC.out.mono ?_
    rintro e w3 ⟨S3, u3, m3, hno, hyes⟩
    have HB3 : Hid (Below w.heap.size w w3) := HB2.out.trans (u3.toBelow HB2.out.size (fun k hk h => by have h9 : k = w1.heap.size := h; have := HB1.out; omega))
    have HYES := Lib.hid hyes
    have HNO := Lib.hid hno
    clear hyes hno u3 m3
    rcases HCN.out with ⟨d1, d2⟩ | ⟨d1, d2, d3⟩ | ⟨d1, d2, d3, d4, d5, d6, d7, d8⟩
    · rw [HN1.out] at d1
      omega
    · obtain ⟨rfl, V3, h3⟩ := HNO.out (by rw [d3]; exact fun h => by cases h)
      have e1 : r.1 = 5 := by rw [d3]
      rw [e1]
      rw [HN1.out] at d2
      have hci : decide ((cap : Int) < (n1 : Int) + 11) = true := decide_eq_true (by omega)
      clear d1 d2 d3 e1 h3 HYES HNO HCN HC
      go_wp2
      go_ret
      exact ⟨rfl, HB3.out⟩
    · obtain ⟨q0, T, rfl, h3, hT⟩ := HYES.out d3
      generalize w1.heap.size = p at *
      have hbx : Below w3.heap.size w3 (w3.alloc (.cells #[] 22)) := upd_box _
      have hst : Hid (Stay w (w3.alloc (.cells #[] 22)) p q0 (.slice a1 n1 c1) (.slice (some ⟨w3.heap.size, 0, none⟩) 0 0) (.slice a1 n1 c1) (.slice (some ⟨w3.heap.size, 0, none⟩) 0 0) 0) := by
        refine ⟨HB3.out.trans (hbx.mono HB3.out.size), S3, T, r.2.1, r.2.2, im, [], im, [], h3.below hbx, HIM.out, HIM.out, ⟨_, _, _, rfl, rfl, (fun h => by cases h), .inl ⟨rfl, .inr ⟨_, rfl⟩⟩⟩, ⟨_, _, _, rfl, rfl, (fun h => by cases h), .inl ⟨rfl, .inr ⟨_, rfl⟩⟩⟩, Nat.le_refl _, Nat.le_refl _, by rw [d4]; exact Nat.le_refl _, .inl ⟨?_, by rw [d4], by rw [d4]⟩⟩
        rw [d4]
        exact fresh_alive d8 d6 d1
      clear h3 d1 d2 d3 d4 d5 d6 d7 d8 HYES HNO HCN HC hT hbx
      go_wp2_with fail
      generalize w3.alloc (.cells #[] 22) = w4 at *
      go_loopw [9, 10, 11, 12, 13, 68] (fun l was rec nxt mor i wr => ∃ k q : Nat, k ≤ n ∧ i = .int .i64 k ∧ l = .pointer (some ⟨q, 0, none⟩) ∧ Stay w wr p q was rec nxt mor k) (fun _ _ _ _ _ i _ => n - (intOf i).toNat)
      case atStart => exact ⟨0, q0, Nat.zero_le _, rfl, rfl, hst.out⟩
      case round =>
        clear hst HB3 HB2 HB1
        obtain ⟨k, q, hk, rfl, rfl, hB, S, T, D, L, im1, R, im2, R', hBo, ⟨aw, nw, cw, rfl, hw1, hw2, hw3, hw4, hw5⟩, ⟨an, nn, cn, rfl, hn1, hn2, hn3, hn4, hn5⟩, hr1, hr2, hl1, hl2, hl3, hSt⟩ := hrel
        obtain ⟨ar, nr, cr, er, -⟩ := id hr1
        obtain ⟨am, nm, cm, em, -⟩ := id hr2
        subst er em
        have HBB := Lib.hid hB
        by_cases hlt : k < n
        · have hBo := Lib.hid hBo
          have HR1 := Lib.hid hr1
          have HR2 := Lib.hid hr2
          have HST := Lib.hid hSt
          have HW1 := Lib.hid hw1
          have HW2 := Lib.hid hw2
          have HN1' := Lib.hid hn1
          have HN2 := Lib.hid hn2
          have HNW := Lib.hid hw5
          have HNN := Lib.hid hn5
          clear hr1 hr2 hSt hw1 hw2 hn1 hn2 hw5 hn5
          rcases hx with h0 | ⟨b, off, rfl, hb, hi⟩
          · have := HN.out; rw [h0] at this; simp at this; omega
          have hlk : k < xs.length := by rw [HN.out]; exact hlt
          obtain ⟨ad, cc, hit⟩ := hi k hlk
          have hcs := Ops.cell hit hb hB
          generalize xs[k] = x at *
          have hkk := hit.act.kind
          have hN64 := hit.act.n64
          have hfit := hit.act.fit
          have hnil := hit.act.nil
          have hby := hit.act.bytes
          obtain ⟨kd, N, ys, k0, k1, k2, k3, k4, k5, k6, k7⟩ := x
          simp only [Ov.arr] at hcs hkk hN64 hfit hnil hby
          obtain ⟨m, hm⟩ : ∃ m, ys.length = m := ⟨_, rfl⟩
          rw [hm] at hcs hfit
          have HM := Lib.hid hm
          have HBY := Lib.hid hby
          have HLO := Lib.hid hby.lt
          have HNIL := Lib.hid hnil
          have HI := Lib.hid hi
          have hk0 : (0 : Int) ≤ (k : Int) := by omega
          have hkn : (k : Int) < (n : Int) := by omega
          have A0 : Below wr.heap.size wr (wr.alloc (.cells #[.int .u8 kd, .int .i64 N, .slice ad m cc, .int .i64 k0, .int .i64 k1, .int .i64 k2, .int .i64 k3, .int .i64 k4, .int .i64 k5, .int .i64 k6, .int .i64 k7] 36)) := upd_box _
          have hblk := heap_alloc_new wr (.cells #[.int .u8 kd, .int .i64 N, .slice ad m cc, .int .i64 k0, .int .i64 k1, .int .i64 k2, .int .i64 k3, .int .i64 k4, .int .i64 k5, .int .i64 k6, .int .i64 k7] 36)
          have HBK := Lib.hid hblk
          have HA0 := Lib.hid A0
          clear hi hit hm hby hnil hblk A0
          by_cases h6 : kd = 6
          · subst h6
            go_wp2_with (refine wpList_load_cells rfl 36 _ rfl b (off + k * 11) rfl #[.int .u8 6, .int .i64 N, .slice ad m cc, .int .i64 k0, .int .i64 k1, .int .i64 k2, .int .i64 k3, .int .i64 k4, .int .i64 k5, .int .i64 k6, .int .i64 k7] _ hcs Tryd.underlying36 rfl info_op11' ?_)
            all_goals
              generalize wr.alloc (.cells #[.int .u8 6, .int .i64 N, .slice ad m cc, .int .i64 k0, .int .i64 k1, .int .i64 k2, .int .i64 k3, .int .i64 k4, .int .i64 k5, .int .i64 k6, .int .i64 k7] 36) = W at *
              have HBW := Lib.hid (hBo.out.below HA0.out)
              have BW := Lib.hid (HBB.out.trans (HA0.out.mono HBB.out.size))
              obtain ⟨VV, hd⟩ := HBW.out.disk
              have HFU := Lib.hid (fun (z : Int) (hz : z ≤ 9223372036854775807) => fuse_in hd z hz)
              clear hd hcs
              refine (HFU.out _ (by first | decide | omega)).mono ?_
              intro e w5 ha
              obtain ⟨rfl, S5, h5, g5⟩ := HBW.out.step ha
              have H5 := Lib.hid h5
              have G5 := Lib.hid g5
              clear ha h5 g5
              go_wp2
              go_roundw
              case rel => exact ⟨k + 1, q, by omega, by go_num, rfl, ⟨BW.out.trans (HBW.out.went G5.out), S5, T, _, L, im1, R, im2, R', H5.out, ⟨aw, nw, cw, rfl, HW1.out, HW2.out, hw3, hw4, HNW.out⟩, ⟨an, nn, cn, rfl, HN1'.out, HN2.out, hn3, hn4, HNN.out⟩, (HR1.out.below HA0.out).went G5.out, (HR2.out.below HA0.out).went G5.out, by omega, by omega, by omega, HST.out.fuse _⟩⟩
              case measure => simp [intOf]; omega
          · have h6i : (kd == 6) = false := by simpa using h6
            clear h6
            by_cases h7 : 6 < kd
            · go_wp2_with (refine wpList_load_cells rfl 36 _ rfl b (off + k * 11) rfl #[.int .u8 kd, .int .i64 N, .slice ad m cc, .int .i64 k0, .int .i64 k1, .int .i64 k2, .int .i64 k3, .int .i64 k4, .int .i64 k5, .int .i64 k6, .int .i64 k7] _ hcs Tryd.underlying36 rfl info_op11' ?_)
              generalize wr.alloc (.cells #[.int .u8 kd, .int .i64 N, .slice ad m cc, .int .i64 k0, .int .i64 k1, .int .i64 k2, .int .i64 k3, .int .i64 k4, .int .i64 k5, .int .i64 k6, .int .i64 k7] 36) = W at *
              have HBW := Lib.hid (hBo.out.below HA0.out)
              have BW := Lib.hid (HBB.out.trans (HA0.out.mono HBB.out.size))
              obtain ⟨VV, hd⟩ := HBW.out.disk
              have HRS := Lib.hid (restart_in hd k0 k1 k2 k3 k4 k5 k6 k7)
              obtain ⟨fl, g, hFd⟩ := HST.out.back hd.ok.tidy (kp k0 k1 k2 k3 k4 k5 k6 k7)
              have hFx : ∃ imX RX, ((imX = im1 ∧ RX = R) ∨ (imX = im2 ∧ RX = R')) ∧ Found (D.restart (kp k0 k1 k2 k3 k4 k5 k6 k7)) fl g imX RX := by
                rcases hFd with h | h
                · exact ⟨im1, R, .inl ⟨rfl, rfl⟩, h⟩
                · exact ⟨im2, R', .inr ⟨rfl, rfl⟩, h⟩
              obtain ⟨imX, RX, hX, hFX⟩ := hFx
              obtain ⟨D2, ho2, ha2, hli2⟩ := hFX.open rfl rfl
              have HAL := Lib.hid ha2
              have HLIT := Lib.hid hli2
              have HXX := Lib.hid hX
              have HOE := Lib.hid ho2
              have HRXL : Hid (RX.length ≤ k) := by rcases hX with ⟨_, e⟩ | ⟨_, e⟩ <;> rw [e] <;> assumption
              clear hd hcs hFd hFX hX ho2 ha2 hli2
              refine HRS.out.mono ?_
              rintro e w5 ⟨rfl, ⟨V5, h5⟩, u5⟩
              have BW5 : Hid (Below w.heap.size w w5) := BW.out.trans (u5.toBelow BW.out.size (fun k hk h => by have := HBW.out.sB k h; omega))
              have HO5 := Lib.hid (log_open h5 (HH.out.below BW5.out) HBW.out.sB)
              rw [HOE.out] at HO5
              have HRa := Lib.hid ((HR1.out.below HA0.out).upd (S' := S) (T' := T) u5 (fun g _ a b _ => ⟨a, a, b⟩))
              have HRb := Lib.hid ((HR2.out.below HA0.out).upd (S' := S) (T' := T) u5 (fun g _ a b _ => ⟨a, a, b⟩))
              clear h5 u5
              go_wp2_with fail
              refine HO5.out.mono ?_
              rintro e w6 ⟨S6, u6, m6, -, hyes⟩
              obtain ⟨q2, T2, rfl, h6, hT2⟩ := hyes rfl
              have H6 := Lib.hid h6
              have U6 := Lib.hid u6
              have M6 := Lib.hid m6
              have HT2 := Lib.hid hT2
              have BW6 : Hid (Below w.heap.size w w6) := BW5.out.trans (u6.toBelow BW5.out.size (fun k hk h => by have := HBW.out.sB k h; omega))
              have HRa6 := Lib.hid (HRa.out.upd (S' := S6) (T' := T2) u6 (fun g hg a b _ => ⟨a, fun x => (m6 g x).elim a (fun y => by omega), fun x => by have := hT2 g x; omega⟩))
              have HRb6 := Lib.hid (HRb.out.upd (S' := S6) (T' := T2) u6 (fun g hg a b _ => ⟨a, fun x => (m6 g x).elim a (fun y => by omega), fun x => by have := hT2 g x; omega⟩))
              have h40m : 40 ≤ maxLen := by decide
              have HSA := Lib.hid (same_log h6.log (by show RX.length ≤ 1000000; have := HRXL.out; omega) aw ar im1 R nw cw nr cr HW1.out (HW2.out.below BW6.out) (Nat.le_trans hw3 hw4) (HRa6.out.lists BW6.out).1 (HRa6.out.lists BW6.out).2 (by have := (HRa6.out.lists BW6.out).1; omega))
              clear h6 u6 m6 hT2 hyes
              by_cases hs : same ⟨fl, g, imX, RX, false⟩ im1 R = true
              · have HEQ := Lib.hid hs
                rw [hs] at HSA
                clear hs
                go_wp2_with fail
                refine HSA.out.mono ?_
                rintro e w7 ⟨rfl, b7⟩
                have B67 := Lib.hid b7
                have BW7 := Lib.hid (BW6.out.trans (b7.mono BW6.out.size))
                obtain ⟨V6, hd6⟩ := H6.out.disk
                have HD7 := Lib.hid (hd6.below b7)
                clear b7 hd6
                have hop2 := HAL.out.found.open HAL.out.lost HLIT.out
                obtain ⟨D3, ho3, ha3, -⟩ := hop2
                have HO3 := Lib.hid (log_open (HD7.out) (HH.out.below BW7.out) H6.out.sB)
                rw [ho3] at HO3
                have HA3 := Lib.hid ha3
                clear ho3 ha3
                go_wp2_with fail
                refine HO3.out.mono ?_
                rintro e w8 ⟨S8, u8, m8, -, hyes8⟩
                obtain ⟨q3, T3, rfl, h8, hT3⟩ := hyes8 rfl
                have U8 := Lib.hid u8
                have M8 := Lib.hid m8
                have H8 := Lib.hid h8
                have BW8 : Hid (Below w.heap.size w w8) := BW7.out.trans (u8.toBelow BW7.out.size (fun k hk h => by have := H6.out.sB k h; omega))
                have HRx := Lib.hid ((((HRa.out.upd U6.out (fun g hg a b _ => ⟨a, fun x => (M6.out g x).elim a (fun y => by omega), fun x => by have := HT2.out g x; omega⟩)).below B67.out).upd (S' := S8) (T' := T2) u8 (fun g hg a b _ => ⟨a, fun x => (M8.out g x).elim a (fun y => by omega), b⟩)))
                have hsm3 : same ⟨fl, g, imX, RX, false⟩ im1 R = true := HEQ.out
                have HS3 := Lib.hid (same_log h8.log (by show RX.length ≤ 1000000; have := HRXL.out; omega) aw ar im1 R nw cw nr cr HW1.out (HW2.out.below BW8.out) (Nat.le_trans hw3 hw4) (HRx.out.lists BW8.out).1 (HRx.out.lists BW8.out).2 (by have := (HRx.out.lists BW8.out).1; omega))
                rw [show same ⟨fl, g, imX, RX, false⟩ im1 R = true from hsm3] at HS3
                clear hyes8 u8 m8 h8 hT3 hsm3
                go_wp2_with fail
                refine HS3.out.mono ?_
                rintro e w9 ⟨rfl, b9⟩
                have B9 := Lib.hid b9
                have HB9 := Lib.hid (BW8.out.trans (b9.mono BW8.out.size))
                clear b9
                go_wp2
                go_roundw
                case rel =>
                  refine ⟨k + 1, q2, by omega, by go_num, rfl, ⟨HB9.out, S8, T2, D3, ⟨fl, g, imX, RX, false⟩, im1, R, im1, R, ?_, ⟨aw, nw, cw, rfl, HW1.out, HW2.out, hw3, hw4, HNW.out⟩, ⟨aw, nw, cw, rfl, HW1.out, HW2.out, hw3, hw4, HNW.out⟩, HRx.out.below B9.out, HRx.out.below B9.out, by omega, by omega, by show RX.length ≤ k + 1; have := HRXL.out; omega, .inl ⟨HA3.out, (same_iff.1 HEQ.out).1, (same_iff.1 HEQ.out).2⟩⟩⟩
                  obtain ⟨V8, hd8⟩ := H8.out.disk
                  exact ⟨⟨V8, hd8.below B9.out⟩, ((H6.out.log.below B67.out).upd U8.out (fun k hk hs => H6.out.st k hs hk)).below B9.out, H8.out.sB, H6.out.tB, fun k hk ht => by
                    rcases M8.out k hk with x | x
                    · exact H6.out.st k x ht
                    · have := H6.out.log.lt k ht; have := B67.out.size; omega⟩
                case measure => simp [intOf]; omega
              · have hsf : same ⟨fl, g, imX, RX, false⟩ im1 R = false := by simpa using hs
                have hs2 : same ⟨fl, g, imX, RX, false⟩ im2 R' = true := by
                  rcases HXX.out with ⟨e1, e2⟩ | ⟨e1, e2⟩
                  · exact (hs (same_iff.2 ⟨e1, e2⟩)).elim
                  · exact same_iff.2 ⟨e1, e2⟩
                have HEQ := Lib.hid hs2
                rw [hsf] at HSA
                clear hs hsf hs2
                go_wp2_with fail
                refine HSA.out.mono ?_
                rintro e w7 ⟨rfl, b7⟩
                have BW7 := Lib.hid (BW6.out.trans (b7.mono BW6.out.size))
                have B67 := Lib.hid b7
                have HSB := Lib.hid (same_log (H6.out.log.below b7) (by show RX.length ≤ 1000000; have := HRXL.out; omega) an am im2 R' nn cn nm cm HN1'.out (HN2.out.below BW7.out) (Nat.le_trans hn3 hn4) ((HRb6.out.below b7).lists BW7.out).1 ((HRb6.out.below b7).lists BW7.out).2 (by have := (HRb6.out.lists BW6.out).1; omega))
                rw [HEQ.out] at HSB
                obtain ⟨V6, hd6⟩ := H6.out.disk
                have HD6 := Lib.hid (hd6.below b7)
                clear b7 hd6
                go_wp2_with fail
                refine HSB.out.mono ?_
                rintro e w7' ⟨rfl, b7'⟩
                have BW7 := Lib.hid (BW7.out.trans (b7'.mono BW7.out.size))
                have B67 := Lib.hid (B67.out.trans (b7'.mono B67.out.size))
                have HD7 := Lib.hid (HD6.out.below b7')
                clear b7'
                have hop2 := HAL.out.found.open HAL.out.lost HLIT.out
                obtain ⟨D3, ho3, ha3, -⟩ := hop2
                have HO3 := Lib.hid (log_open (HD7.out) (HH.out.below BW7.out) H6.out.sB)
                rw [ho3] at HO3
                have HA3 := Lib.hid ha3
                clear ho3 ha3
                go_wp2_with fail
                refine HO3.out.mono ?_
                rintro e w8 ⟨S8, u8, m8, -, hyes8⟩
                obtain ⟨q3, T3, rfl, h8, hT3⟩ := hyes8 rfl
                have U8 := Lib.hid u8
                have M8 := Lib.hid m8
                have H8 := Lib.hid h8
                have BW8 : Hid (Below w.heap.size w w8) := BW7.out.trans (u8.toBelow BW7.out.size (fun k hk h => by have := H6.out.sB k h; omega))
                have HRx := Lib.hid ((((HRb.out.upd U6.out (fun g hg a b _ => ⟨a, fun x => (M6.out g x).elim a (fun y => by omega), fun x => by have := HT2.out g x; omega⟩)).below B67.out).upd (S' := S8) (T' := T2) u8 (fun g hg a b _ => ⟨a, fun x => (M8.out g x).elim a (fun y => by omega), b⟩)))
                have hsm3 : same ⟨fl, g, imX, RX, false⟩ im2 R' = true := HEQ.out
                have HS3 := Lib.hid (same_log h8.log (by show RX.length ≤ 1000000; have := HRXL.out; omega) an am im2 R' nn cn nm cm HN1'.out (HN2.out.below BW8.out) (Nat.le_trans hn3 hn4) (HRx.out.lists BW8.out).1 (HRx.out.lists BW8.out).2 (by have := (HRx.out.lists BW8.out).1; omega))
                rw [show same ⟨fl, g, imX, RX, false⟩ im2 R' = true from hsm3] at HS3
                clear hyes8 u8 m8 h8 hT3 hsm3
                go_wp2_with fail
                refine HS3.out.mono ?_
                rintro e w9 ⟨rfl, b9⟩
                have B9 := Lib.hid b9
                have HB9 := Lib.hid (BW8.out.trans (b9.mono BW8.out.size))
                clear b9
                go_wp2
                go_roundw
                case rel =>
                  refine ⟨k + 1, q2, by omega, by go_num, rfl, ⟨HB9.out, S8, T2, D3, ⟨fl, g, imX, RX, false⟩, im2, R', im2, R', ?_, ⟨an, nn, cn, rfl, HN1'.out, HN2.out, hn3, hn4, HNN.out⟩, ⟨an, nn, cn, rfl, HN1'.out, HN2.out, hn3, hn4, HNN.out⟩, HRx.out.below B9.out, HRx.out.below B9.out, by omega, by omega, by show RX.length ≤ k + 1; have := HRXL.out; omega, .inl ⟨HA3.out, (same_iff.1 HEQ.out).1, (same_iff.1 HEQ.out).2⟩⟩⟩
                  obtain ⟨V8, hd8⟩ := H8.out.disk
                  exact ⟨⟨V8, hd8.below B9.out⟩, ((H6.out.log.below B67.out).upd U8.out (fun k hk hs => H6.out.st k hs hk)).below B9.out, H8.out.sB, H6.out.tB, fun k hk ht => by
                    rcases M8.out k hk with x | x
                    · exact H6.out.st k x ht
                    · have := H6.out.log.lt k ht; have := B67.out.size; omega⟩
                case measure => simp [intOf]; omega
            · rcases HST.out with ⟨hAl, hI, hRr⟩ | ⟨hO, hTn⟩
              · have HAL := Lib.hid hAl
                have HIE := Lib.hid hI
                have HRE := Lib.hid hRr
                clear hAl hI hRr
                go_wp2_with (refine wpList_load_cells rfl 36 _ rfl b (off + k * 11) rfl #[.int .u8 kd, .int .i64 N, .slice ad m cc, .int .i64 k0, .int .i64 k1, .int .i64 k2, .int .i64 k3, .int .i64 k4, .int .i64 k5, .int .i64 k6, .int .i64 k7] _ hcs Tryd.underlying36 rfl info_op11' ?_)
                generalize hW : wr.alloc (.cells #[.int .u8 kd, .int .i64 N, .slice ad m cc, .int .i64 k0, .int .i64 k1, .int .i64 k2, .int .i64 k3, .int .i64 k4, .int .i64 k5, .int .i64 k6, .int .i64 k7] 36) = W at *
                have HBW := Lib.hid (hBo.out.below HA0.out)
                have BW := Lib.hid (HBB.out.trans (HA0.out.mono HBB.out.size))
                have hov := log_over HBW.out.log
                rw [HAL.out.over] at hov
                have HOV := Lib.hid hov
                have hkin : W.cell? ⟨wr.heap.size, 0, none⟩ = some (.int .u8 kd) := cell_of_row W _ 0 _ _ _ HBK.out
                have hdat : W.cell? ⟨wr.heap.size, 2, none⟩ = some (.slice ad m cc) := cell_of_row W _ 2 _ _ _ HBK.out
                have HKIN := Lib.hid hkin
                have HDAT := Lib.hid hdat
                have hoS : Hid (¬ (S wr.heap.size ∨ T wr.heap.size)) := by
                  obtain ⟨VV, hd⟩ := hBo.out.disk
                  exact fun e => e.elim (fun e => by have := hd.lt _ e; omega) (fun e => by have := hBo.out.log.lt _ e; omega)
                have hoW : Hid (wr.heap.size < W.heap.size) := by show wr.heap.size < W.heap.size; rw [← hW]; simp
                have HR1W := Lib.hid (HR1.out.below HA0.out)
                have HR2W := Lib.hid (HR2.out.below HA0.out)
                have HIA : Hid (ImgArg w (.slice ad m cc) ys) := ⟨ad, m, cc, rfl, HM.out, HBY.out, hfit.1, hfit.2, HNIL.out⟩
                clear hov hcs hW
                refine HOV.out.mono ?_
                rintro e w5 ⟨rfl, rfl⟩
                go_upto_if 79 with fail
                go_cut [8, 19, 20] (fun s8 s19 s20 wx => ∃ (ec : Int) (S6 T6 : Nat → Prop) (D6 : DM) (L6 : LM) (im3 : List UInt8) (R3 : List (List UInt8)), s8 = .int .i64 ec ∧ Below w.heap.size w wx ∧ Both wx w.heap.size p q S6 T6 D6 L6 ∧ RowHeld w wx S6 T6 (.slice ar nr cr) R ∧ RowHeld w wx S6 T6 (.slice am nm cm) R' ∧ ImgArg w s19 im3 ∧ RowHeld w wx S6 T6 s20 R3 ∧ R3.length ≤ k + 1 ∧ L6.recs.length ≤ k + 1 ∧ (ec = 0 ∧ Alive D6 L6 ∧ L6.image = im3 ∧ L6.recs = R3 ∨ ec = 6 ∧ L6.over = true ∧ Torn D6 im1 R im3 R3 ∨ (ec = 4 ∨ ec = 5) ∧ Alive D6 L6 ∧ L6.image = im1 ∧ L6.recs = R))
                case first =>
                  by_cases hlt5 : kd < 5
                  · have hd5 : decide (kd < 5) = true := decide_eq_true hlt5
                    have HC := Lib.hid (log_append HBW.out (HH.out.below BW.out) ad ys m cc HM.out (HBY.out.below BW.out) HNIL.out (fun h0 x hx e => by
                      have := HLO.out h0 x hx
                      rcases e with e | e
                      · have := HBW.out.sB _ e; omega
                      · have := HBW.out.tB _ e; omega) (by omega))
                    have HKEY := Lib.hid (HAL.out.append ys)
                    generalize logAppend D L ys = rr at HC HKEY
                    obtain ⟨ec, D6, L6⟩ := rr
                    go_wp2_with fail
                    refine HC.out.mono ?_
                    rintro e w5 ⟨rfl, S5, T5, h5', g5⟩
                    have H5 := Lib.hid h5'
                    have B5 := Lib.hid (BW.out.trans (HBW.out.went g5))
                    have y0 := (g5.upd.cell (p := ⟨wr.heap.size, 2, none⟩) hoW.out hoS.out).trans HDAT.out
                    have hlt5 := Nat.lt_of_lt_of_le hoW.out g5.upd.size
                    have HR1V := Lib.hid (HR1W.out.went g5)
                    have HR2V := Lib.hid (HR2W.out.went g5)
                    clear h5' g5
                    obtain ⟨vals, hvl, hvu, hvc, hvi⟩ := HR1V.out.vals
                    have HVI := Lib.hid hvi
                    clear hvi
                    have b0 := (Below.refl w5.heap.size w5).drew
                    have bE : Below w5.heap.size w5 (w5.drew.alloc (.cells #[] 22)) := b0.trans ((upd_box _).mono b0.size)
                    have bX : Below w5.heap.size w5 (w5.drew.alloc (.cells #[.slice ad m cc] 22)) := b0.trans ((upd_box _).mono b0.size)
                    have bEX : Below w5.heap.size w5 ((w5.drew.alloc (.cells #[] 22)).alloc (.cells #[.slice ad m cc] 22)) := bE.trans ((upd_box _).mono bE.size)
                    have bXE : Below w5.heap.size w5 ((w5.drew.alloc (.cells #[.slice ad m cc] 22)).alloc (.cells #[] 22)) := bX.trans ((upd_box _).mono bX.size)
                    have y1 := (Below.cell (p := ⟨wr.heap.size, 2, none⟩) (B := w5.heap.size) bE hlt5).trans y0
                    have o1 := own_none w5.drew
                    have o2 : ((w5.drew.alloc (.cells #[] 22)).alloc (.cells #[.slice ad m cc] 22)).ownsRow w5.heap.size 22 1 (.slice (some ⟨w5.heap.size, 0, none⟩) 0 0) 0 [] := ownsRow_upd (S := fun _ => False) o1 (below_upd _ (upd_box _)) (fun _ _ h => h)
                    have hsX : (w5.drew.alloc (.cells #[.slice ad m cc] 22)).heap.size = w5.heap.size + 1 := by simp
                    have hsE : (w5.drew.alloc (.cells #[] 22)).heap.size = w5.heap.size + 1 := by simp
                    have o3 : ((w5.drew.alloc (.cells #[.slice ad m cc] 22)).alloc (.cells #[] 22)).ownsRow w5.heap.size 22 1 (.slice (some ⟨w5.heap.size + 1, 0, none⟩) 0 0) 0 [] := by
                      rw [← hsX]
                      exact World.ownsRow_made _ #[] 0 (by rw [hsX]; omega) (Nat.zero_le _) rfl
                    have hnew : ∀ V : World, (V.alloc (.cells #[.slice ad m cc] 22)).cell? ⟨V.heap.size, 0, none⟩ = some (.slice ad m cc) := fun V => by simp
                    have x2 := hnew (w5.drew.alloc (.cells #[] 22))
                    rw [hsE] at x2
                    have x3' : (w5.drew.alloc (.cells #[.slice ad m cc] 22)).cell? ⟨w5.drew.heap.size, 0, none⟩ = some (.slice ad m cc) := hnew _
                    have x3 : ((w5.drew.alloc (.cells #[.slice ad m cc] 22)).alloc (.cells #[] 22)).cell? ⟨w5.heap.size, 0, none⟩ = some (.slice ad m cc) := (Below.cell (p := ⟨w5.drew.heap.size, 0, none⟩) (upd_box _) (by rw [hsX]; show w5.heap.size < _; omega)).trans x3'
                    have hn41 : nr ≤ 40 := by have := (HR1V.out.lists B5.out).1; omega
                    have hm0 : 0 + nr ≤ maxLen := by unfold maxLen; omega
                    have hm1 : nr + 1 ≤ maxLen := by unfold maxLen; omega
                    have hy0 : (0 + nr) * 24 ≤ 140737488355328 := by omega
                    have hy1 : (nr + 1) * 24 ≤ 140737488355328 := by omega
                    have hz9 : ∀ (V : World) (a6 : Option Addr) (c6 : Nat), V.ownsRow w5.heap.size 22 1 (.slice a6 (0 + nr) c6) (0 + nr) ([] ++ vals) → V.ownsRow w5.heap.size 22 1 (.slice a6 nr c6) nr vals := fun V a6 c6 h => by rw [Nat.zero_add] at h; exact h
                    go_upto_region 18 with fail
                    go_cut [19, 20] (fun s19 s20 wx => s19 = .slice aw nw cw ∧ Below w5.heap.size w5 wx ∧ ∃ a c, s20 = .slice a (nr + 1) c ∧ wx.ownsRow w5.heap.size 22 1 (.slice a (nr + 1) c) (nr + 1) (vals ++ [.slice ad m cc]))
                    case first =>
                      go_region_law (first
                        | (refine step_append_vals (by rfl) _ _ 33 (by rfl) w5.heap.size 22 (.slice none 0 0) 24 Tryd.underlying33 sl_info rfl (.slice (some ⟨w5.heap.size, 0, none⟩) 0 0) 0 [] (by kernel_rfl) o2 ar nr cr vals (by kernel_rfl) hvl (hvc _ bEX) hvu hm0 hy0 bEX.size ?_; intro a6 c6 w6 hr6 hg6 hn6; have u6 := (Upd.refl (fun g => w5.heap.size = g) _).grown hg6 (fun j hj => .inl (Option.some.inj hj)); have b7 := bEX.trans (u6.toBelow bEX.size (fun k hk h => by omega)); have hT7 := hz9 _ _ _ hr6; have xT7 := (u6.cell (p := ⟨w5.heap.size + 1, 0, none⟩) (by simp) (by show ¬ w5.heap.size = w5.heap.size + 1; omega)).trans x2)
                        | (refine step_append_vals (by rfl) _ _ 33 (by rfl) w5.heap.size 22 (.slice none 0 0) 24 Tryd.underlying33 sl_info rfl (.slice (some ⟨w5.heap.size + 1, 0, none⟩) 0 0) 0 [] (by kernel_rfl) o3 ar nr cr vals (by kernel_rfl) hvl (hvc _ bXE) hvu hm0 hy0 bXE.size ?_; intro a6 c6 w6 hr6 hg6 hn6; have u6 := (Upd.refl (fun g => w5.heap.size + 1 = g) _).grown hg6 (fun j hj => .inl (Option.some.inj hj)); have b7 := bXE.trans (u6.toBelow bXE.size (fun k hk h => by omega)); have hT7 := hz9 _ _ _ hr6; have xT7 := (u6.cell (p := ⟨w5.heap.size, 0, none⟩) (by simp; omega) (by show ¬ w5.heap.size + 1 = w5.heap.size; omega)).trans x3)
                        | (refine step_append_vals (by rfl) _ _ 33 (by rfl) w5.heap.size 22 (.slice none 0 0) 24 Tryd.underlying33 sl_info rfl (.slice (some ⟨w5.heap.size, 0, none⟩) 0 0) 0 [] (by kernel_rfl) o1 ar nr cr vals (by kernel_rfl) hvl (hvc _ bE) hvu hm0 hy0 bE.size ?_; intro a6 c6 w6 hr6 hg6 hn6; have u6 := (Upd.refl (fun g => w5.heap.size = g) _).grown hg6 (fun j hj => .inl (Option.some.inj hj)); have b6 := bE.trans (u6.toBelow bE.size (fun k hk h => by omega)); have y6 := (Below.cell (p := ⟨wr.heap.size, 2, none⟩) (B := w5.heap.size) b6 hlt5).trans y0; have b7 : Below w5.heap.size w5 (w6.alloc (.cells #[.slice ad m cc] 22)) := b6.trans ((upd_box _).mono b6.size); have hT7 : (w6.alloc (.cells #[.slice ad m cc] 22)).ownsRow w5.heap.size 22 1 (.slice a6 nr c6) nr vals := ownsRow_upd (S := fun _ => False) (hz9 _ _ _ hr6) (below_upd _ (upd_box _)) (fun _ _ h => h); have xT7 : (w6.alloc (.cells #[.slice ad m cc] 22)).cell? ⟨w6.heap.size, 0, none⟩ = some (.slice ad m cc) := by simp)
                        | (refine step_append_elem (by rfl) _ _ 33 (by rfl) w5.heap.size 22 (.slice none 0 0) 24 Tryd.underlying33 sl_info rfl (.slice a6 nr c6) nr vals (by kernel_rfl) hT7 (.slice ad m cc) rfl _ 1 (by kernel_rfl) xT7 (nr + 1) rfl hm1 hy1 b7.size ?_; intro a7 c7 w7 hr7 hg7 hn7; have b8 := b7.trans (((Upd.refl (fun g => (Value.slice a6 nr c6).ownBlock = some g) _).grown hg7 (fun j hj => .inl hj)).toBelow b7.size (fun k hk h => by have := (hT7.lt k h).1; omega))))
                      all_goals
                        go_wp2_with fail
                        go_meet
                        exact ⟨rfl, b8, a7, c7, rfl, hr7⟩
                    case rest =>
                      obtain ⟨rfl, b8, a7, c7, rfl, hr7⟩ := hcut
                      go_wp2_with fail
                      go_meet
                      have hm9 := HM.out
                      subst hm9
                      have hro := RowHeld.made (HR1V.out.lists B5.out).1 B5.out.size (fun k hk => by obtain ⟨VV, hd⟩ := H5.out.disk; exact hd.lt k hk) (fun k hk => H5.out.log.lt k hk) hvl HVI.out hr7 HBY.out hfit.1 hfit.2 HNIL.out
                      have hle : (R ++ [ys]).length ≤ k + 1 := by simp; omega
                      rcases HKEY.out with ⟨e1, e2, e3⟩ | ⟨e1, e2, e3⟩ | ⟨e1, e2⟩
                      · exact ⟨ec, S5, T5, D6, L6, im1, R ++ [ys], rfl, B5.out.trans (b8.mono B5.out.size), H5.out.below b8, HR1V.out.below b8, HR2V.out.below b8, ⟨aw, nw, cw, rfl, HW1.out, HW2.out, hw3, hw4, HNW.out⟩, hro, hle, by rw [show L6 = L.push ys from e3]; show (L.recs ++ [ys]).length ≤ k + 1; simp; omega, .inl ⟨e1, by rw [show L6 = L.push ys from e3]; exact e2, by rw [show L6 = L.push ys from e3]; exact HIE.out, by rw [show L6 = L.push ys from e3]; show L.recs ++ [ys] = R ++ [ys]; rw [HRE.out]⟩⟩
                      · exact ⟨ec, S5, T5, D6, L6, im1, R ++ [ys], rfl, B5.out.trans (b8.mono B5.out.size), H5.out.below b8, HR1V.out.below b8, HR2V.out.below b8, ⟨aw, nw, cw, rfl, HW1.out, HW2.out, hw3, hw4, HNW.out⟩, hro, hle, by rw [show L6 = L.ends 6 from e3]; show L.recs.length ≤ k + 1; omega, .inr (.inl ⟨e1, by rw [show L6 = L.ends 6 from e3]; rfl, by rw [HIE.out, HRE.out] at e2; exact e2⟩)⟩
                      · obtain ⟨rfl, rfl⟩ := Prod.mk.inj e2
                        exact ⟨ec, S5, T5, D6, L6, im1, R ++ [ys], rfl, B5.out.trans (b8.mono B5.out.size), H5.out.below b8, HR1V.out.below b8, HR2V.out.below b8, ⟨aw, nw, cw, rfl, HW1.out, HW2.out, hw3, hw4, HNW.out⟩, hro, hle, by omega, .inr (.inr ⟨e1, HAL.out, HIE.out, HRE.out⟩)⟩
                  · have hd5 : decide (kd < 5) = false := decide_eq_false hlt5
                    have HC := Lib.hid (log_compact HBW.out (HH.out.below BW.out) ad ys m cc HM.out (HBY.out.below BW.out) HNIL.out (fun h0 x hx e => by
                      have := HLO.out h0 x hx
                      rcases e with e | e
                      · have := HBW.out.sB _ e; omega
                      · have := HBW.out.tB _ e; omega))
                    have HKEY := Lib.hid (HAL.out.compact ys)
                    have HCR := Lib.hid (compact_recs D L ys)
                    generalize logCompact D L ys = rr at HC HKEY HCR
                    obtain ⟨ec, D6, L6⟩ := rr
                    go_wp2_with fail
                    refine HC.out.mono ?_
                    rintro e w6 ⟨rfl, S6, T6, h6', g6⟩
                    have H6 := Lib.hid h6'
                    have G6 := Lib.hid g6
                    have B6 := Lib.hid (BW.out.trans (HBW.out.went g6))
                    clear h6' g6
                    go_wp2_with fail
                    go_meet
                    rcases HKEY.out with ⟨e1, e2, e3⟩ | ⟨e1, e2, e3⟩ | ⟨e1, e2⟩
                    · exact ⟨ec, S6, T6, D6, L6, ys, [], rfl, B6.out, H6.out, HR1W.out.went G6.out, HR2W.out.went G6.out, HIA.out, RowHeld.nil _ _ _ _, Nat.zero_le _, by rw [show L6 = L.anew ys from e3]; exact Nat.zero_le _, .inl ⟨e1, by rw [show L6 = L.anew ys from e3]; exact e2, by rw [show L6 = L.anew ys from e3]; rfl, by rw [show L6 = L.anew ys from e3]; rfl⟩⟩
                    · exact ⟨ec, S6, T6, D6, L6, ys, [], rfl, B6.out, H6.out, HR1W.out.went G6.out, HR2W.out.went G6.out, HIA.out, RowHeld.nil _ _ _ _, Nat.zero_le _, (by have h9 : L6.recs.length ≤ L.recs.length := HCR.out; omega), .inr (.inl ⟨e1, e3, by rw [HIE.out, HRE.out] at e2; exact e2⟩)⟩
                    · obtain ⟨rfl, rfl⟩ := Prod.mk.inj e2
                      exact ⟨ec, S6, T6, D6, L6, ys, [], rfl, B6.out, H6.out, HR1W.out.went G6.out, HR2W.out.went G6.out, HIA.out, RowHeld.nil _ _ _ _, Nat.zero_le _, by omega, .inr (.inr ⟨e1, HAL.out, HIE.out, HRE.out⟩)⟩
                case rest =>
                  obtain ⟨ec, S6, T6, D6, L6, im3, R3, rfl, hB6, hBo6, hr6, hm6, hg, hrr6, hl6, hl7, hout⟩ := hcut
                  have HG := Lib.hid hg
                  obtain ⟨ag, ng, cg, rfl, hg1, hg2, hg3, hg4, hg5⟩ := hg
                  obtain ⟨ax, nx, cx, ex, -⟩ := id hrr6
                  subst ex
                  have HB6 := Lib.hid hB6
                  have HBO6 := Lib.hid hBo6
                  have HR6 := Lib.hid hr6
                  have HM6 := Lib.hid hm6
                  have HRR6 := Lib.hid hrr6
                  have HG1 := Lib.hid hg1
                  have HG2 := Lib.hid hg2
                  clear hr6 hm6 hrr6 hB6 hBo6 hg1 hg2 hg5
                  rcases hout with ⟨rfl, hA, hI6, hR6⟩ | ⟨rfl, hO, hT⟩ | ⟨hec, hA, hI6, hR6⟩
                  · have HA6 := Lib.hid hA
                    have HI6 := Lib.hid hI6
                    have HRR := Lib.hid hR6
                    have HSA := Lib.hid (same_log HBO6.out.log (by omega) ag ax im3 R3 ng cg nx cx HG1.out (HG2.out.below HB6.out) (Nat.le_trans hg3 hg4) (HRR6.out.lists HB6.out).1 (HRR6.out.lists HB6.out).2 (Nat.le_trans (show nx ≤ 41 by have := (HRR6.out.lists HB6.out).1; omega) (by decide)))
                    rw [same_iff.2 ⟨hI6, hR6⟩] at HSA
                    clear hA hI6 hR6
                    go_wp2_with fail
                    refine HSA.out.mono ?_
                    rintro e w7 ⟨rfl, b7⟩
                    have B67 := Lib.hid b7
                    have B7 := Lib.hid (HB6.out.trans (b7.mono HB6.out.size))
                    clear b7
                    go_wp2
                    go_roundw
                    case rel =>
                      exact ⟨k + 1, q, by omega, by go_num, rfl, ⟨B7.out, S6, T6, D6, L6, im3, R3, im2, R', HBO6.out.below B67.out, HG.out, ⟨an, nn, cn, rfl, HN1'.out, HN2.out, hn3, hn4, HNN.out⟩, HRR6.out.below B67.out, HM6.out.below B67.out, by omega, by omega, by omega, .inl ⟨HA6.out, HI6.out, HRR.out⟩⟩⟩
                    case measure => simp [intOf]; omega
                  · have hov6 := log_over HBO6.out.log
                    rw [hO] at hov6
                    have HOV6 := Lib.hid hov6
                    obtain ⟨V6, hd6⟩ := HBO6.out.disk
                    have hlo := lost_in (b := true) (by have := hd6.c27; rw [hT.lost] at this; exact this)
                    have HLO6 := Lib.hid hlo
                    have HO6 := Lib.hid hO
                    have HT6 := Lib.hid hT
                    clear hov6 hd6 hlo hO hT
                    go_wp2_with fail
                    refine HOV6.out.mono ?_
                    rintro e w7 ⟨rfl, rfl⟩
                    go_wp2_with fail
                    refine HLO6.out.mono ?_
                    rintro e w7 ⟨rfl, rfl⟩
                    go_wp2
                    go_roundw
                    case rel =>
                      exact ⟨k + 1, q, by omega, by go_num, rfl, ⟨HB6.out, S6, T6, D6, L6, im1, R, im3, R3, HBO6.out, ⟨aw, nw, cw, rfl, HW1.out, HW2.out, hw3, hw4, HNW.out⟩, HG.out, HR6.out, HRR6.out, by omega, by omega, by omega, .inr ⟨HO6.out, HT6.out⟩⟩⟩
                    case measure => simp [intOf]; omega
                  · have HA6 := Lib.hid hA
                    have HI6 := Lib.hid hI6
                    have HRR := Lib.hid hR6
                    have HSA := Lib.hid (same_log HBO6.out.log (by omega) aw ar im1 R nw cw nr cr HW1.out (HW2.out.below HB6.out) (Nat.le_trans hw3 hw4) (HR6.out.lists HB6.out).1 (HR6.out.lists HB6.out).2 (Nat.le_trans (show nr ≤ 41 by have := (HR6.out.lists HB6.out).1; omega) (by decide)))
                    rw [same_iff.2 ⟨hI6, hR6⟩] at HSA
                    clear hA hI6 hR6
                    rcases hec with rfl | rfl
                    all_goals
                      go_wp2_with fail
                      refine HSA.out.mono ?_
                      rintro e w7 ⟨rfl, b7⟩
                      have B67 := Lib.hid b7
                      have B7 := Lib.hid (HB6.out.trans (b7.mono HB6.out.size))
                      clear b7
                      go_wp2
                      go_roundw
                      case rel =>
                        exact ⟨k + 1, q, by omega, by go_num, rfl, ⟨B7.out, S6, T6, D6, L6, im1, R, im2, R', HBO6.out.below B67.out, ⟨aw, nw, cw, rfl, HW1.out, HW2.out, hw3, hw4, HNW.out⟩, ⟨an, nn, cn, rfl, HN1'.out, HN2.out, hn3, hn4, HNN.out⟩, HR6.out.below B67.out, HM6.out.below B67.out, by omega, by omega, by omega, .inl ⟨HA6.out, HI6.out, HRR.out⟩⟩⟩
                      case measure => simp [intOf]; omega
              · have HTN := Lib.hid hTn
                have HO := Lib.hid hO
                clear hTn hO
                go_wp2_with (refine wpList_load_cells rfl 36 _ rfl b (off + k * 11) rfl #[.int .u8 kd, .int .i64 N, .slice ad m cc, .int .i64 k0, .int .i64 k1, .int .i64 k2, .int .i64 k3, .int .i64 k4, .int .i64 k5, .int .i64 k6, .int .i64 k7] _ hcs Tryd.underlying36 rfl info_op11' ?_)
                generalize hW : wr.alloc (.cells #[.int .u8 kd, .int .i64 N, .slice ad m cc, .int .i64 k0, .int .i64 k1, .int .i64 k2, .int .i64 k3, .int .i64 k4, .int .i64 k5, .int .i64 k6, .int .i64 k7] 36) = W at *
                have HBW := Lib.hid (hBo.out.below HA0.out)
                have BW := Lib.hid (HBB.out.trans (HA0.out.mono HBB.out.size))
                have hov := log_over HBW.out.log
                rw [HO.out] at hov
                have HOV := Lib.hid hov
                have hdat : W.cell? ⟨wr.heap.size, 2, none⟩ = some (.slice ad m cc) := cell_of_row W _ 2 _ _ _ HBK.out
                have HA := Lib.hid (log_append HBW.out (HH.out.below BW.out) ad ys m cc HM.out (HBY.out.below BW.out) HNIL.out (fun h0 x hx e => by
                  have := HLO.out h0 x hx
                  rcases e with e | e
                  · have := HBW.out.sB _ e; omega
                  · have := HBW.out.tB _ e; omega) (by omega))
                have hla : logAppend D L ys = (6, D, L) := if_pos HO.out
                rw [hla] at HA
                have hoS : Hid (¬ (S wr.heap.size ∨ T wr.heap.size)) := by
                  obtain ⟨VV, hd⟩ := hBo.out.disk
                  exact fun e => e.elim (fun e => by have := hd.lt _ e; omega) (fun e => by have := hBo.out.log.lt _ e; omega)
                have hoW : Hid (wr.heap.size < W.heap.size) := by show wr.heap.size < W.heap.size; rw [← hW]; simp
                clear hla hov hcs hW
                refine HOV.out.mono ?_
                rintro e w5 ⟨rfl, rfl⟩
                go_wp2_with fail
                refine HA.out.mono ?_
                rintro e w5 ⟨rfl, S5, T5, h5, g5⟩
                have H5 := Lib.hid h5
                have G5 := Lib.hid g5
                have BW5 := Lib.hid (BW.out.trans (HBW.out.went g5))
                have hdat5 := (g5.upd.cell (p := ⟨wr.heap.size, 2, none⟩) hoW.out hoS.out).trans hdat
                have HC := Lib.hid (log_compact h5 (HH.out.below BW5.out) ad ys m cc HM.out (HBY.out.below BW5.out) HNIL.out (fun h0 x hx e => by
                  have := HLO.out h0 x hx
                  rcases e with e | e
                  · have := H5.out.sB _ e; omega
                  · have := H5.out.tB _ e; omega))
                have hlc : logCompact D L ys = (6, D, L) := if_pos HO.out
                rw [hlc] at HC
                clear hlc h5 g5
                go_wp2_with fail
                refine HC.out.mono ?_
                rintro e w6 ⟨rfl, S6, T6, h6', g6⟩
                have H6 := Lib.hid h6'
                have G6 := Lib.hid (G5.out.trans g6)
                have B6 := Lib.hid (BW5.out.trans (H5.out.went g6))
                clear h6' g6
                go_wp2
                go_roundw
                case rel => exact ⟨k + 1, q, by omega, by go_num, rfl, ⟨B6.out, S6, T6, D, L, im1, R, im2, R', H6.out, ⟨aw, nw, cw, rfl, HW1.out, HW2.out, hw3, hw4, HNW.out⟩, ⟨an, nn, cn, rfl, HN1'.out, HN2.out, hn3, hn4, HNN.out⟩, (HR1.out.below HA0.out).went G6.out, (HR2.out.below HA0.out).went G6.out, by omega, by omega, by omega, .inr ⟨HO.out, HTN.out⟩⟩⟩
                case measure => simp [intOf]; omega
        · go_wp2
          go_ret
          exact ⟨rfl, HBB.out⟩

set_option maxHeartbeats 4000000 in
theorem stays_far (cap : Int) (a1 a2 : Option Addr) (xs : List Ov) (n1 c1 n c : Nat) (w : World) (hH : HalvesAt w) (hn : xs.length = n) (hx : Ops w a2 xs) (h : cap < 0 ∨ 1048576 < cap ∨ 5000 < n1) :
    Calls Tryd.prog 3 #[.int .i64 cap, .slice a1 n1 c1, .slice a2 n c] w fun e w' => e = .returned (.bool true) ∧ Below w.heap.size w w' := by
  have HH := Lib.hid hH
  have HN := Lib.hid hn
  have HX := Lib.hid hx
  have HC := Lib.hid h
  clear hH hn hx h
  by_cases h5 : (5000 : Int) < (n1 : Int)
  · clear HC
    go_enter Tryd.func3, Tryd.ntmps3
    go_wp2_with fail
    refine (log_awake _ HH.out).mono ?_
    rintro e w1 ⟨rfl, b1⟩
    go_wp2_with fail
    refine (few_log a2 xs n c w w1 HN.out HX.out b1).mono ?_
    rintro e w2 ⟨v, rfl, rfl, hv⟩
    have HV := Lib.hid hv
    clear hv
    cases v
    all_goals
      go_wp2_with fail
      refine (log_awake _ (HH.out.below b1)).mono ?_
      rintro e w2 ⟨rfl, b2⟩
      go_wp2
      go_ret
      exact ⟨rfl, b1.trans (b2.mono b1.size)⟩
  · have HNB := Lib.hid (fun w => new_bad cap w (by have := HC.out; omega))
    clear HC
    go_enter Tryd.func3, Tryd.ntmps3
    go_wp2_with fail
    refine (log_awake _ HH.out).mono ?_
    rintro e w1 ⟨rfl, b1⟩
    go_wp2_with fail
    refine (few_log a2 xs n c w w1 HN.out HX.out b1).mono ?_
    rintro e w2 ⟨v, rfl, rfl, hv⟩
    have HV := Lib.hid hv
    clear hv
    cases v
    · go_wp2_with fail
      refine (log_awake _ (HH.out.below b1)).mono ?_
      rintro e w2 ⟨rfl, b2⟩
      go_wp2
      go_ret
      exact ⟨rfl, b1.trans (b2.mono b1.size)⟩
    · go_wp2_with fail
      refine (HNB.out _).mono ?_
      rintro e w2 ⟨rfl, rfl⟩
      go_wp2
      go_ret
      exact ⟨rfl, b1⟩

theorem stays_contract (W : World) (args : Array Value) (hL : laidMetH Tryd.prog halvesLaid W) (h : Each Tryd.prog W Tryd.f3.params.toList args.toList) :
    Calls Tryd.prog 3 args W fun e W' => e = .returned (.bool true) ∧ Below W.heap.size W W' := by
  rw [Tryd.params3] at h
  obtain ⟨v0, r0, e0, ⟨_, o0⟩, d0, h⟩ := h.cons
  obtain ⟨v1, r1, rfl, ⟨_, o1⟩, d1, h⟩ := h.cons
  obtain ⟨v2, r2, rfl, ⟨_, o2⟩, d2, h⟩ := h.cons
  obtain rfl := h.nil
  obtain ⟨args⟩ := args
  obtain rfl : args = [v0, v1, v2] := e0
  obtain ⟨cap, rfl, hk⟩ := val_int o0 d0 Tryd.underlying3
  obtain ⟨a1, n1, c1, rfl, hc1⟩ := val_slice o1 Tryd.underlying22
  rw [hc1] at d1
  obtain ⟨a', c', im, e, h1, h2, h3, h4⟩ := d1.bytes Tryd.underlying22 Tryd.underlying5 cells_u8'
  injection e with e _
  injection e with e1 e2 e3
  subst e1 e2 e3
  obtain ⟨a2, n2, c2, rfl, hc2⟩ := val_slice o2 Tryd.underlying23
  rw [hc2] at d2
  obtain ⟨xs, hn, hx, _⟩ := ops_of d2
  have hH := halves_of_laid hL
  by_cases hbig : cap < 0 ∨ 1048576 < cap ∨ 5000 < im.length
  · exact stays_far cap _ _ xs _ _ _ _ W hH hn hx hbig
  · obtain ⟨cap, rfl⟩ := Int.eq_ofNat_of_zero_le (show 0 ≤ cap by omega)
    exact stays_near cap _ _ im xs _ _ _ _ W hH (by omega) rfl h3 h1 h2 h4 hn hx (by omega)

theorem stays_lifted (os : Os) (started : os.Started) (H : Type) (enc : TypeId × Value → H) :
    ReturnsInHanded {} Tryd.checked os 3 .any (fun w args => (Rows.logStaysSpec.pre enc Tryd.prog Tryd.f3 [] false w args ∧ laidMetH Tryd.prog halvesLaid w) ∧ sizedMet enc Tryd.prog Tryd.f3 (OpenSpec.ofChange Rows.logStaysSpec) false w args)
      (Rows.logStaysSpec.post enc Tryd.prog Tryd.f3 false true false false) :=
  law_lifted_laid (C := Tryd.checked) frame_own frame_laidOut (by kernel_rfl) Tryd.func3 rfl (tb := 4) rfl Tryd.underlying4
    (by
      rw [Tryd.params3]; intro t ht; simp at ht
      rcases ht with rfl | rfl | rfl <;> exact ⟨by kernel_rfl, of_decide_eq_true (by kernel_rfl)⟩)
    (fun H ds hl => by
      rw [Tryd.params3] at hl
      match ds, hl with
      | [d1, d2, d3], _ => rfl)
    os started H enc
    (ChangeSpec.witness_shaped (enc := enc) (C := Tryd.checked) (os := os) (X := fun w _ => laidMetH Tryd.prog halvesLaid w) false (World.doorLaid Tryd.prog 14 os) #[.int .i64 0, .slice none 0 0, .slice none 0 0] 8 rfl (World.shaped_of_RefB (by kernel_rfl) (by kernel_rfl)) (by kernel_rfl) (by kernel_rfl) (by kernel_rfl) (door_met os _))
    stays_contract

theorem logStays_holds : Rows.LogStaysSaid :=
  OpenClaim.holds_of_wide 3 Tryd.f3 rfl rfl rfl rfl rfl rfl rfl ⟨rfl, rfl, rfl, rfl, rfl⟩ rfl rfl rfl rfl rfl (by kernel_rfl) Tryd.func3 (by kernel_rfl)
    (of_decide_eq_true (by kernel_rfl)) (by unfold Func.isWrapper; first | (rw [if_pos (by decide +kernel)]; kernel_rfl) | (rw [if_neg (by decide +kernel)]; exact ⟨rfl, rfl⟩))
    (fun os started H enc _ => stays_lifted os started H enc)

theorem logStays_card : Rows.LogStaysCardSaid :=
  Claim7.holds_tied_plain_at .later [] [.data] true _ false
    logStays_holds (fun _ h => by cases h) (by kernel_rfl) (fun _ h => by cases h) logStays_row_tie rfl ⟨rfl, rfl⟩ (by kernel_rfl) rfl
    (fun f fn hf hfn => by
      obtain rfl : f = 3 := Option.some.inj ((show Tryd.prog.funcNamed "recoup/recouplaw04.LogStays" = some 3 by kernel_rfl).symm.trans hf) |>.symm
      obtain rfl : fn = Tryd.f3 := (Option.some.inj (Tryd.func3.symm.trans hfn)).symm
      exact ⟨by kernel_rfl, fun j t ht => by
        rw [Tryd.params3] at ht
        have hm : t ∈ [3, 22, 23] := by simpa using Array.mem_of_getElem? ht
        have hall : ([3, 22, 23].all fun u => !Tryd.prog.wantsStandIn u) = true := by kernel_rfl
        exact (show Tryd.prog.wantsStandIn t = false by simpa using List.all_eq_true.1 hall t hm)⟩)
    (by kernel_rfl)
#print axioms logStays_card
end Go.Proofs.YtfoapnclfipkiaaDoor
