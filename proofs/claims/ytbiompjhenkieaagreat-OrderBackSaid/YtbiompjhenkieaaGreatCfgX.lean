/-
  A config: orders, lines, supplies, in memory, and as an argument. Conditions: those of each theorem. When a config is right; how many units: as functions; plain. Conditions: those of each theorem. The document's price of a SKU (recoupref05.Price), and which configs are looked at (recouplaw10.Few). Conditions: those of each theorem. == of policies, lines, supplies. Conditions: none.
-/
import Derived.Test.YtbiompjhenkieaaGreatBase
import Derived.Test.YtbiompjhenkieaaGreatPolX
import Derived.BigQuiet
namespace Go.Proofs.YtbiompjhenkieaaGreat
open Go.RowKit Go.WideShapes
set_option maxRecDepth 100000

structure Ln where
  sku : Int
  cat : Int
  price : Int
  count : Int
def Ln.arr (l : Ln) : Array Value := #[.int .i64 l.sku, .int .i64 l.cat, .int .i64 l.price, .int .i64 l.count]
structure Sup where
  sku : Int
  price : Int
  count : Int
def Sup.arr (s : Sup) : Array Value := #[.int .i64 s.sku, .int .i64 s.price, .int .i64 s.count]
structure Ord where
  day : Int
  lines : List Ln
  disc : Int
  tax : Int
  ship : Int
structure Cfg where
  orders : List Ord
  sups : List Sup
  table : List Pol
def ordCells (day : Int) (a : Option Addr) (n c : Nat) (disc tax ship : Int) : Array Value := #[.int .i64 day, .slice a n c, .int .i64 disc, .int .i64 tax, .int .i64 ship]
def cfgCells (ao : Option Addr) (no co : Nat) (aS : Option Addr) (ns cs : Nat) (aT : Option Addr) (nt ct : Nat) : Array Value := #[.slice ao no co, .slice aS ns cs, .slice aT nt ct]

def LnsAt (w : World) (a : Option Addr) (ls : List Ln) : Prop := RowAt (fun w b o l => ArrAt w b o (Ln.arr l)) 4 w a ls
def SupsAt (w : World) (a : Option Addr) (ss : List Sup) : Prop := RowAt (fun w b o s => ArrAt w b o (Sup.arr s)) 3 w a ss
/-- An order in memory: its cells, and its lines. -/
def OrdAt (w : World) (b o : Nat) (x : Ord) : Prop := ∃ a n c, ArrAt w b o (ordCells x.day a n c x.disc x.tax x.ship) ∧ x.lines.length = n ∧ n ≤ c ∧ c ≤ maxLen ∧ LnsAt w a x.lines
def OrdsAt (w : World) (a : Option Addr) (os : List Ord) : Prop := RowAt OrdAt 5 w a os

theorem LnsAt.below {w w' : World} {a : Option Addr} {ls : List Ln} (h : LnsAt w a ls) (k : Below w.heap.size w w') : LnsAt w' a ls := RowAt.map h k.size fun _ _ _ _ hx => hx.grown k
theorem SupsAt.below {w w' : World} {a : Option Addr} {ss : List Sup} (h : SupsAt w a ss) (k : Below w.heap.size w w') : SupsAt w' a ss := RowAt.map h k.size fun _ _ _ _ hx => hx.grown k
theorem OrdAt.below {w w' : World} {b o : Nat} {x : Ord} (h : OrdAt w b o x) (k : Below w.heap.size w w') : OrdAt w' b o x := by
  obtain ⟨a, n, c, h1, h2, h3, h4, h5⟩ := h
  exact ⟨a, n, c, h1.grown k, h2, h3, h4, h5.below k⟩
theorem OrdsAt.below {w w' : World} {a : Option Addr} {os : List Ord} (h : OrdsAt w a os) (k : Below w.heap.size w w') : OrdsAt w' a os := RowAt.map h k.size fun _ _ _ _ hx => hx.below k

/-- A config as a value: three slices, and what lies there. -/
structure CfgIs (w : World) (ao : Option Addr) (no : Nat) (aS : Option Addr) (ns : Nat) (aT : Option Addr) (nt : Nat) (C : Cfg) : Prop where
  ol : C.orders.length = no
  sl : C.sups.length = ns
  tl : C.table.length = nt
  oa : OrdsAt w ao C.orders
  sa : SupsAt w aS C.sups
  ta : PolsAt w aT C.table
  om : no ≤ maxLen
  sm : ns ≤ maxLen
  tm : nt ≤ maxLen
theorem CfgIs.below {w w' : World} {ao aS aT : Option Addr} {no ns nt : Nat} {C : Cfg} (h : CfgIs w ao no aS ns aT nt C) (k : Below w.heap.size w w') : CfgIs w' ao no aS ns aT nt C :=
  ⟨h.ol, h.sl, h.tl, h.oa.below k, h.sa.below k, h.ta.below k, h.om, h.sm, h.tm⟩

section
variable {w : World} {b o : Nat}
theorem ArrAt.one {cs : Array Value} (h : ArrAt w b o cs) (j : Nat) (v : Value) (hv : cs[j]? = some v) : w.cell? ⟨b, o + j, none⟩ = some v := h.cells j v hv
theorem LnAt.all {l : Ln} (h : ArrAt w b o l.arr) : w.cell? ⟨b, o, none⟩ = some (.int .i64 l.sku) ∧ w.cell? ⟨b, o + 1, none⟩ = some (.int .i64 l.cat) ∧ w.cell? ⟨b, o + 2, none⟩ = some (.int .i64 l.price) ∧ w.cell? ⟨b, o + 3, none⟩ = some (.int .i64 l.count) :=
  ⟨h.cells 0 _ rfl, h.cells 1 _ rfl, h.cells 2 _ rfl, h.cells 3 _ rfl⟩
theorem SupAt.all {s : Sup} (h : ArrAt w b o s.arr) : w.cell? ⟨b, o, none⟩ = some (.int .i64 s.sku) ∧ w.cell? ⟨b, o + 1, none⟩ = some (.int .i64 s.price) ∧ w.cell? ⟨b, o + 2, none⟩ = some (.int .i64 s.count) :=
  ⟨h.cells 0 _ rfl, h.cells 1 _ rfl, h.cells 2 _ rfl⟩
theorem ordAt_all {d : Int} {a : Option Addr} {n c : Nat} {x y z : Int} (h : ArrAt w b o (ordCells d a n c x y z)) : w.cell? ⟨b, o, none⟩ = some (.int .i64 d) ∧ w.cell? ⟨b, o + 1, none⟩ = some (.slice a n c) ∧ w.cell? ⟨b, o + 2, none⟩ = some (.int .i64 x) ∧ w.cell? ⟨b, o + 3, none⟩ = some (.int .i64 y) ∧ w.cell? ⟨b, o + 4, none⟩ = some (.int .i64 z) :=
  ⟨h.cells 0 _ rfl, h.cells 1 _ rfl, h.cells 2 _ rfl, h.cells 3 _ rfl, h.cells 4 _ rfl⟩
theorem cfgAt_all {ao aS aT : Option Addr} {no co ns cs nt ct : Nat} (h : ArrAt w b o (cfgCells ao no co aS ns cs aT nt ct)) : w.cell? ⟨b, o, none⟩ = some (.slice ao no co) ∧ w.cell? ⟨b, o + 1, none⟩ = some (.slice aS ns cs) ∧ w.cell? ⟨b, o + 2, none⟩ = some (.slice aT nt ct) :=
  ⟨h.cells 0 _ rfl, h.cells 1 _ rfl, h.cells 2 _ rfl⟩
end

/-- All of a config's numbers fit. -/
def LnFit (l : Ln) : Prop := I64 l.sku ∧ I64 l.cat ∧ I64 l.price ∧ I64 l.count
def SupFit (s : Sup) : Prop := I64 s.sku ∧ I64 s.price ∧ I64 s.count
def OrdFit (x : Ord) : Prop := I64 x.day ∧ I64 x.disc ∧ I64 x.tax ∧ I64 x.ship ∧ ∀ l ∈ x.lines, LnFit l
structure CfgFit (C : Cfg) : Prop where
  o : ∀ x ∈ C.orders, OrdFit x
  s : ∀ x ∈ C.sups, SupFit x
  t : ∀ p ∈ C.table, PolFit p

theorem cells_ln : Tryz.prog.cellsOf 54 = 4 := by kernel_rfl
theorem cells_sup : Tryz.prog.cellsOf 42 = 3 := by kernel_rfl
theorem cells_ord : Tryz.prog.cellsOf 45 = 5 := by kernel_rfl
theorem cells_cfg : Tryz.prog.cellsOf 26 = 3 := by kernel_rfl
theorem cells_ci : Tryz.prog.cellsOf 3 = 1 := by kernel_rfl
theorem cells_ci64 : Tryz.prog.cellsOf 2 = 1 := by kernel_rfl
theorem cells_clns : Tryz.prog.cellsOf 43 = 1 := by kernel_rfl
theorem cells_cords : Tryz.prog.cellsOf 22 = 1 := by kernel_rfl
theorem cells_csups : Tryz.prog.cellsOf 23 = 1 := by kernel_rfl
theorem cells_cpols : Tryz.prog.cellsOf 24 = 1 := by kernel_rfl

theorem arrAt_of {w : World} {b o sz : Nat} {cs : List Value} {arr : Array Value} (hb : b < w.heap.size) (hl : cs.length = sz) (hat : ∀ j, j < sz → w.cell? ⟨b, o + j, none⟩ = cs[j]?) (e : cs = arr.toList) : ArrAt w b o arr :=
  ⟨hb, fun j v hj => by
    have hj2 : j < sz := by
      rw [← hl, e]
      obtain ⟨h, _⟩ := Array.getElem?_eq_some_iff.1 hj
      simpa using h
    rw [hat j hj2, e, Array.getElem?_toList]
    exact hj⟩

theorem rd_ln {w : World} {cs : List Value} (h : Rd Tryz.prog w 54 cs) : ∃ l : Ln, cs = l.arr.toList ∧ LnFit l := by
  have hl := (h.struct Tryz.underlying54).1
  rw [cells_ln] at hl
  match cs, hl with
  | [c0, c1, c2, c3], _ =>
    have f0 : Rd Tryz.prog w 3 [c0] := h.field Tryz.underlying54 0 rfl rfl rfl cells_ci
    have f1 : Rd Tryz.prog w 3 [c1] := h.field Tryz.underlying54 1 rfl rfl rfl cells_ci
    have f2 : Rd Tryz.prog w 2 [c2] := h.field Tryz.underlying54 2 rfl rfl rfl cells_ci64
    have f3 : Rd Tryz.prog w 3 [c3] := h.field Tryz.underlying54 3 rfl rfl rfl cells_ci
    obtain ⟨v0, e0, w0⟩ := f0.int Tryz.underlying3
    obtain ⟨v1, e1, w1⟩ := f1.int Tryz.underlying3
    obtain ⟨v2, e2, w2⟩ := f2.int Tryz.underlying2
    obtain ⟨v3, e3, w3⟩ := f3.int Tryz.underlying3
    obtain rfl : c0 = .int .i64 v0 := by injection e0
    obtain rfl : c1 = .int .i64 v1 := by injection e1
    obtain rfl : c2 = .int .i64 v2 := by injection e2
    obtain rfl : c3 = .int .i64 v3 := by injection e3
    exact ⟨⟨v0, v1, v2, v3⟩, rfl, wf_i64 w0, wf_i64 w1, wf_i64 w2, wf_i64 w3⟩
theorem rd_sup {w : World} {cs : List Value} (h : Rd Tryz.prog w 42 cs) : ∃ s : Sup, cs = s.arr.toList ∧ SupFit s := by
  have hl := (h.struct Tryz.underlying42).1
  rw [cells_sup] at hl
  match cs, hl with
  | [c0, c1, c2], _ =>
    have f0 : Rd Tryz.prog w 3 [c0] := h.field Tryz.underlying42 0 rfl rfl rfl cells_ci
    have f1 : Rd Tryz.prog w 2 [c1] := h.field Tryz.underlying42 1 rfl rfl rfl cells_ci64
    have f2 : Rd Tryz.prog w 3 [c2] := h.field Tryz.underlying42 2 rfl rfl rfl cells_ci
    obtain ⟨v0, e0, w0⟩ := f0.int Tryz.underlying3
    obtain ⟨v1, e1, w1⟩ := f1.int Tryz.underlying2
    obtain ⟨v2, e2, w2⟩ := f2.int Tryz.underlying3
    obtain rfl : c0 = .int .i64 v0 := by injection e0
    obtain rfl : c1 = .int .i64 v1 := by injection e1
    obtain rfl : c2 = .int .i64 v2 := by injection e2
    exact ⟨⟨v0, v1, v2⟩, rfl, wf_i64 w0, wf_i64 w1, wf_i64 w2⟩
theorem rd_ord {w : World} {b o : Nat} {cs : List Value} (hb : b < w.heap.size) (hl : cs.length = 5) (hat : ∀ j, j < 5 → w.cell? ⟨b, o + j, none⟩ = cs[j]?) (h : Rd Tryz.prog w 45 cs) : ∃ x : Ord, OrdAt w b o x ∧ OrdFit x := by
  match cs, hl with
  | [c0, c1, c2, c3, c4], hl =>
    have f0 : Rd Tryz.prog w 3 [c0] := h.field Tryz.underlying45 0 rfl rfl rfl cells_ci
    have f1 : Rd Tryz.prog w 43 [c1] := h.field Tryz.underlying45 1 rfl rfl rfl cells_clns
    have f2 : Rd Tryz.prog w 2 [c2] := h.field Tryz.underlying45 2 rfl rfl rfl cells_ci64
    have f3 : Rd Tryz.prog w 2 [c3] := h.field Tryz.underlying45 3 rfl rfl rfl cells_ci64
    have f4 : Rd Tryz.prog w 2 [c4] := h.field Tryz.underlying45 4 rfl rfl rfl cells_ci64
    obtain ⟨v0, e0, w0⟩ := f0.int Tryz.underlying3
    obtain ⟨v2, e2, w2⟩ := f2.int Tryz.underlying2
    obtain ⟨v3, e3, w3⟩ := f3.int Tryz.underlying2
    obtain ⟨v4, e4, w4⟩ := f4.int Tryz.underlying2
    obtain rfl : c0 = .int .i64 v0 := by injection e0
    obtain rfl : c2 = .int .i64 v2 := by injection e2
    obtain rfl : c3 = .int .i64 v3 := by injection e3
    obtain rfl : c4 = .int .i64 v4 := by injection e4
    obtain ⟨a, n, c, e1, -, -, -, -⟩ := f1.slice_at Tryz.underlying43 cells_ln (by decide)
    obtain rfl : c1 = .slice a n c := by injection e1
    obtain ⟨ls, h1, h2, h3, h4, h5⟩ := rows_of (fun w b o l => ArrAt w b o (Ln.arr l)) LnFit ⟨0, 0, 0, 0⟩ f1 Tryz.underlying43 cells_ln (by decide) (fun b o cs hb hl hat hrd => by
      obtain ⟨l, e, hf⟩ := rd_ln hrd
      exact ⟨l, arrAt_of hb hl hat e, hf⟩)
    exact ⟨⟨v0, ls, v2, v3, v4⟩, ⟨a, n, c, arrAt_of hb hl hat rfl, h1, h3, h4, h2⟩, wf_i64 w0, wf_i64 w2, wf_i64 w3, wf_i64 w4, h5⟩

theorem val_cfg {w : World} {v : Value} {r : Reach} {base : Nat} (hv : Value.okWide Tryz.prog w r base 26 v) (h : Rd Tryz.prog w 26 v.cells.toList) :
    ∃ ao no co aS ns cs aT nt ct C, v = .agg (cfgCells ao no co aS ns cs aT nt ct) ∧ CfgIs w ao no aS ns aT nt C ∧ CfgFit C := by
  have e : v = .agg v.cells := by
    simp only [Value.okWide, Tryz.underlying26] at hv
    obtain ⟨cs, rfl, _⟩ := hv
    rfl
  have hl := (h.struct Tryz.underlying26).1
  rw [cells_cfg] at hl
  have e' : v.cells = v.cells.toList.toArray := by simp
  rw [e'] at e
  generalize v.cells.toList = cs at *
  match cs, hl with
  | [c0, c1, c2], _ =>
    have f0 : Rd Tryz.prog w 22 [c0] := h.field Tryz.underlying26 0 rfl rfl rfl cells_cords
    have f1 : Rd Tryz.prog w 23 [c1] := h.field Tryz.underlying26 1 rfl rfl rfl cells_csups
    have f2 : Rd Tryz.prog w 24 [c2] := h.field Tryz.underlying26 2 rfl rfl rfl cells_cpols
    obtain ⟨ao, no, co, e0, -, -, -, -⟩ := f0.slice_at Tryz.underlying22 cells_ord (by decide)
    obtain rfl : c0 = .slice ao no co := by injection e0
    obtain ⟨aS, ns, cs, e1, -, -, -, -⟩ := f1.slice_at Tryz.underlying23 cells_sup (by decide)
    obtain rfl : c1 = .slice aS ns cs := by injection e1
    obtain ⟨aT, nt, ct, e2, -, -, -, -⟩ := f2.slice_at Tryz.underlying24 cells_pol (by decide)
    obtain rfl : c2 = .slice aT nt ct := by injection e2
    obtain ⟨os, h1, h2, h3, h4, h5⟩ := rows_of OrdAt OrdFit ⟨0, [], 0, 0, 0⟩ f0 Tryz.underlying22 cells_ord (by decide) (fun b o cs hb hl hat hrd => rd_ord hb hl hat hrd)
    obtain ⟨ss, k1, k2, k3, k4, k5⟩ := rows_of (fun w b o s => ArrAt w b o (Sup.arr s)) SupFit ⟨0, 0, 0⟩ f1 Tryz.underlying23 cells_sup (by decide) (fun b o cs hb hl hat hrd => by
      obtain ⟨l, e, hf⟩ := rd_sup hrd
      exact ⟨l, arrAt_of hb hl hat e, hf⟩)
    obtain ⟨ps, m1, m2, m3, m4⟩ := pols_of f2
    exact ⟨ao, no, co, aS, ns, cs, aT, nt, ct, ⟨os, ss, ps⟩, e, ⟨h1, k1, m1, h2, k2, m2, by omega, by omega, m3⟩, h5, k5, m4⟩
end Go.Proofs.YtbiompjhenkieaaGreat

namespace Go.Proofs.YtbiompjhenkieaaGreat
open Go.RowKit
set_option maxRecDepth 100000

def priceB (n : Int) : Bool := decide (0 ≤ n ∧ n ≤ 1073741824)
def skuB (n : Int) : Bool := decide (1 ≤ n ∧ n ≤ 1000)
def countB (n : Int) : Bool := decide (1 ≤ n ∧ n ≤ 50)
def lineB (cats : Nat) (l : Ln) : Bool := skuB l.sku && decide (0 ≤ l.cat ∧ l.cat < cats) && priceB l.price && countB l.count
def supB (s : Sup) : Bool := skuB s.sku && priceB s.price && countB s.count
def total : List Ln → Int
  | [] => 0
  | l :: ls => l.price * l.count + total ls
def counts : List Ln → Int
  | [] => 0
  | l :: ls => l.count + counts ls
def headB (x : Ord) : Bool := decide (0 ≤ x.day ∧ x.day ≤ 100000) && decide (1 ≤ x.lines.length ∧ x.lines.length ≤ 8) && priceB x.disc && priceB x.tax && priceB x.ship
def ordB (cats : Nat) (x : Ord) : Bool := headB x && x.lines.all (lineB cats) && decide (x.disc ≤ total x.lines)
def countsO : List Ord → Int
  | [] => 0
  | x :: xs => counts x.lines + countsO xs
def countsS : List Sup → Int
  | [] => 0
  | s :: ss => s.count + countsS ss
/-- No supply behind another one of the same SKU. -/
def freshB (ss : List Sup) (i : Nat) : Bool := (List.range i).all fun k => decide (((ss[k]?).getD ⟨0, 0, 0⟩).sku ≠ ((ss[i]?).getD ⟨0, 0, 0⟩).sku)
def freshAll (ss : List Sup) : Bool := (List.range ss.length).all (freshB ss)
def rightC (C : Cfg) : Bool :=
  rightT C.table && decide (C.orders.length ≤ 20) && decide (C.sups.length ≤ 20) && C.orders.all (ordB C.table.length) && C.sups.all supB && freshAll C.sups && decide (countsO C.orders + countsS C.sups ≤ 200)

theorem total_append (a b : List Ln) : total (a ++ b) = total a + total b := by
  induction a with
  | nil => simp [total]
  | cons l a ih => simp only [List.cons_append, total, ih]; omega
theorem counts_append (a b : List Ln) : counts (a ++ b) = counts a + counts b := by
  induction a with
  | nil => simp [counts]
  | cons l a ih => simp only [List.cons_append, counts, ih]; omega
theorem countsO_append (a b : List Ord) : countsO (a ++ b) = countsO a + countsO b := by
  induction a with
  | nil => simp [countsO]
  | cons l a ih => simp only [List.cons_append, countsO, ih]; omega
theorem countsS_append (a b : List Sup) : countsS (a ++ b) = countsS a + countsS b := by
  induction a with
  | nil => simp [countsS]
  | cons l a ih => simp only [List.cons_append, countsS, ih]; omega
theorem total_take (ls : List Ln) (k : Nat) (h : k < ls.length) : total (ls.take (k + 1)) = total (ls.take k) + ls[k].price * ls[k].count := by
  rw [List.take_succ_eq_append_getElem h, total_append]; simp [total]
theorem counts_take (ls : List Ln) (k : Nat) (h : k < ls.length) : counts (ls.take (k + 1)) = counts (ls.take k) + ls[k].count := by
  rw [List.take_succ_eq_append_getElem h, counts_append]; simp [counts]
theorem countsO_take (ls : List Ord) (k : Nat) (h : k < ls.length) : countsO (ls.take (k + 1)) = countsO (ls.take k) + counts ls[k].lines := by
  rw [List.take_succ_eq_append_getElem h, countsO_append]; simp [countsO]
theorem countsS_take (ls : List Sup) (k : Nat) (h : k < ls.length) : countsS (ls.take (k + 1)) = countsS (ls.take k) + ls[k].count := by
  rw [List.take_succ_eq_append_getElem h, countsS_append]; simp [countsS]

structure LineOk (cats : Nat) (l : Ln) : Prop where
  sku : 1 ≤ l.sku ∧ l.sku ≤ 1000
  cat : 0 ≤ l.cat ∧ l.cat < cats
  price : 0 ≤ l.price ∧ l.price ≤ 1073741824
  count : 1 ≤ l.count ∧ l.count ≤ 50
theorem line_ok {cats : Nat} {l : Ln} (h : lineB cats l = true) : LineOk cats l := by
  unfold lineB at h
  simp only [Bool.and_eq_true] at h
  obtain ⟨⟨⟨h1, h2⟩, h3⟩, h4⟩ := h
  exact ⟨of_decide_eq_true h1, of_decide_eq_true h2, of_decide_eq_true h3, of_decide_eq_true h4⟩
theorem line_worth {cats : Nat} {l : Ln} (h : LineOk cats l) : 0 ≤ l.price * l.count ∧ l.price * l.count ≤ 53687091200 := by
  have h1 := h.price
  have h2 := h.count
  constructor
  · exact Int.mul_nonneg h1.1 (by omega)
  · have := Int.mul_le_mul h1.2 h2.2 (by omega) (by decide)
    omega
structure SupOk (s : Sup) : Prop where
  sku : 1 ≤ s.sku ∧ s.sku ≤ 1000
  price : 0 ≤ s.price ∧ s.price ≤ 1073741824
  count : 1 ≤ s.count ∧ s.count ≤ 50
theorem sup_ok {s : Sup} (h : supB s = true) : SupOk s := by
  unfold supB at h
  simp only [Bool.and_eq_true] at h
  obtain ⟨⟨h1, h3⟩, h4⟩ := h
  exact ⟨of_decide_eq_true h1, of_decide_eq_true h3, of_decide_eq_true h4⟩
theorem total_bounds {cats : Nat} : ∀ {ls : List Ln}, ls.all (lineB cats) = true → 0 ≤ total ls ∧ total ls ≤ 53687091200 * ls.length ∧ 0 ≤ counts ls ∧ counts ls ≤ 50 * ls.length
  | [], _ => by simp [total, counts]
  | l :: ls, h => by
    rw [List.all_cons, Bool.and_eq_true] at h
    have h1 := line_ok h.1
    have h2 := line_worth h1
    have h3 := h1.count
    have ih := total_bounds h.2
    simp only [total, counts, List.length_cons]
    omega
end Go.Proofs.YtbiompjhenkieaaGreat

namespace Go.Proofs.YtbiompjhenkieaaGreat
open Go.RowKit
set_option maxRecDepth 100000

/-- The first supply of a SKU. -/
def priceOf (ss : List Sup) (sku : Int) : Option Int := (ss.find? fun s => s.sku == sku).map (·.price)
theorem price_found {ss : List Sup} {sku : Int} {k : Nat} (hk : k < ss.length) (h : ss[k].sku = sku) (hb : ∀ j (hj : j < k), (ss[j]'(by omega)).sku ≠ sku) : priceOf ss sku = some ss[k].price := by
  unfold priceOf
  have : ss.find? (fun s => s.sku == sku) = some ss[k] := by
    rw [List.find?_eq_some_iff_getElem]
    exact ⟨by simpa using h, k, hk, rfl, fun j hj => by simpa using hb j hj⟩
  rw [this]
  rfl
theorem price_none {ss : List Sup} {sku : Int} (hb : ∀ j (hj : j < ss.length), ss[j].sku ≠ sku) : priceOf ss sku = none := by
  unfold priceOf
  rw [List.find?_eq_none.2 (fun s hs => by
    obtain ⟨j, hj, rfl⟩ := List.mem_iff_getElem.1 hs
    simpa using hb j hj)]
  rfl

def fewC (C : Cfg) : Bool := decide (C.orders.length ≤ 40) && decide (C.sups.length ≤ 40) && decide (C.table.length ≤ 40) && C.orders.all fun x => decide (x.lines.length ≤ 20)

set_option maxHeartbeats 2000000 in
theorem law_few (aO aS aT : Option Addr) (no co ns cs nt ct : Nat) (C : Cfg) (w : World) (hC : CfgIs w aO no aS ns aT nt C) :
    Calls Tryz.prog 6 #[.agg (cfgCells aO no co aS ns cs aT nt ct)] w fun e w' => e = .returned (.bool (fewC C)) ∧ Below w.heap.size w w' := by
  have hbox := arr_new w (cfgCells aO no co aS ns cs aT nt ct) 26
  have HBX : Aside _ := hbox
  have HB : Aside (Below w.heap.size w (w.alloc (.cells (cfgCells aO no co aS ns cs aT nt ct) 26))) := (Below.refl _ _).alloc (Nat.le_refl _) _
  have HC : Aside (CfgIs (w.alloc (.cells (cfgCells aO no co aS ns cs aT nt ct) 26)) aO no aS ns aT nt C) := hC.below (Below.alloc (Below.refl _ _) (Nat.le_refl _) _)
  have hlo := Lib.hid hC.ol
  have hls := Lib.hid hC.sl
  have hlt := Lib.hid hC.tl
  clear hbox hC
  obtain ⟨r, hr⟩ : ∃ r, r = fewC C := ⟨_, rfl⟩
  rw [← hr]
  have HR := Lib.hid hr
  clear hr
  go_enter Tryz.func6, Tryz.ntmps6
  go_upto_region 1 with (fail)
  show Code.wp _ _ _ _ (w.alloc (.cells (cfgCells aO no co aS ns cs aT nt ct) 26))
  generalize w.alloc (.cells (cfgCells aO no co aS ns cs aT nt ct) 26) = w1 at *
  obtain ⟨c0, c1, c2⟩ := cfgAt_all HBX.out
  simp only [Nat.zero_add] at c0 c1 c2
  by_cases h1 : no ≤ 40
  · have h1' : ¬ (40 : Int) < no := by omega
    by_cases h2 : ns ≤ 40
    · have h2' : ¬ (40 : Int) < ns := by omega
      by_cases h3 : nt ≤ 40
      · have h3' : ¬ (40 : Int) < nt := by omega
        go_wp2
        go_loopw [23] (fun i wr => ∃ k : Nat, k ≤ no ∧ i = .int .i64 k ∧ Aside (Below w1.heap.size w1 wr) ∧ Hid ((C.orders.take k).all (fun x => decide (x.lines.length ≤ 20)) = true)) (fun i _ => no - (intOf i).toNat)
        case atStart => exact ⟨0, Nat.zero_le _, rfl, Below.refl _ _, rfl⟩
        case round =>
          obtain ⟨k, hk, rfl, HW, HK⟩ := hrel
          have HBX3 : Aside _ := HBX.out.grown HW.out
          have HC3 : Aside _ := HC.out.below HW.out
          have HB3 : Aside (Below w.heap.size w wr) := HB.out.trans (HW.out.mono HB.out.size)
          clear c0 c1 c2
          obtain ⟨c0, c1, c2⟩ := cfgAt_all HBX3.out
          simp only [Nat.zero_add] at c0 c1 c2
          clear c1 c2
          by_cases hltk : k < no
          · have hkn : (k : Int) < (no : Int) := by omega
            obtain ⟨b, off, rfl, hb, hrow⟩ := HC3.out.oa.at HC3.out.ol (by omega)
            have hlk : k < C.orders.length := by rw [HC3.out.ol]; exact hltk
            obtain ⟨al, nl, cl, hcells, hnl, hncl, hclm, hla⟩ := hrow k hlk
            obtain ⟨o0, o1, o2, o3, o4⟩ := ordAt_all hcells
            clear hcells hla hrow o0 o2 o3 o4
            by_cases h20 : nl ≤ 20
            · have h20' : ¬ (20 : Int) < nl := by omega
              have HT : Hid ((C.orders.take (k + 1)).all (fun x => decide (x.lines.length ≤ 20)) = true) := by
                show _ = _
                rw [List.take_succ_eq_append_getElem hlk, List.all_append, HK.out]
                simp [hnl, h20]
              clear hnl HK
              go_wp2
              go_roundw
              case rel => exact ⟨k + 1, by omega, by go_num, HW.out, HT.out⟩
              case measure => simp [intOf]; omega
            · have h20' : (20 : Int) < nl := by omega
              have hr2 : r = false := by
                rw [HR.out]
                unfold fewC
                rw [show (C.orders.all fun x => decide (x.lines.length ≤ 20)) = false from List.all_eq_false.2 ⟨_, List.getElem_mem hlk, by simp; omega⟩, Bool.and_false]
              subst hr2
              clear hnl HK
              go_wp2
              go_ret
              exact ⟨rfl, HB3.out⟩
          · obtain rfl : k = no := by omega
            have hr2 : r = true := by
              rw [HR.out]
              have h9 := HK.out
              rw [List.take_of_length_le (by rw [hlo.out]; exact Nat.le_refl _)] at h9
              unfold fewC
              rw [h9, decide_eq_true (by rw [hlo.out]; exact h1), decide_eq_true (by rw [hls.out]; exact h2), decide_eq_true (by rw [hlt.out]; exact h3)]
              rfl
            subst hr2
            clear HK
            go_wp2
            go_ret
            exact ⟨rfl, HB3.out⟩
      · have h3' : (40 : Int) < nt := by omega
        have hr2 : r = false := by rw [HR.out]; unfold fewC; rw [decide_eq_false (p := C.table.length ≤ 40) (by rw [hlt.out]; exact h3)]; simp
        subst hr2
        go_wp2
        go_ret
        exact ⟨rfl, HB.out⟩
    · have h2' : (40 : Int) < ns := by omega
      have hr2 : r = false := by rw [HR.out]; unfold fewC; rw [decide_eq_false (p := C.sups.length ≤ 40) (by rw [hls.out]; exact h2)]; simp
      subst hr2
      go_wp2
      go_ret
      exact ⟨rfl, HB.out⟩
  · have h1' : (40 : Int) < no := by omega
    have hr2 : r = false := by rw [HR.out]; unfold fewC; rw [decide_eq_false (p := C.orders.length ≤ 40) (by rw [hlo.out]; exact h1)]; simp
    subst hr2
    go_wp2
    go_ret
    exact ⟨rfl, HB.out⟩
end Go.Proofs.YtbiompjhenkieaaGreat

namespace Go.Proofs.YtbiompjhenkieaaGreat
open Go.RowKit
set_option maxRecDepth 100000

def samePol (p q : Pol) : Bool := p.win == q.win && (p.fin == q.fin && (p.exc == q.exc && (p.cre == q.cre && ((p.fee 0 == q.fee 0 && (p.fee 1 == q.fee 1 && (p.fee 2 == q.fee 2 && (p.fee 3 == q.fee 3 && true)))) && (((p.share 0 == q.share 0 && (p.dest 0 == q.dest 0 && true)) && ((p.share 1 == q.share 1 && (p.dest 1 == q.dest 1 && true)) && ((p.share 2 == q.share 2 && (p.dest 2 == q.dest 2 && true)) && ((p.share 3 == q.share 3 && (p.dest 3 == q.dest 3 && true)) && true)))) && true)))))
theorem samePol_iff {p q : Pol} : samePol p q = true ↔ p.arr = q.arr := by
  simp [samePol, Pol.arr, and_assoc]
theorem grade_eq (d : Nat) (s t s' t' : Int) (W : World) : (Op.equalIn (d + 2) 61 (.agg #[.int .i64 s, .int .i64 t]) (.agg #[.int .i64 s', .int .i64 t'])).run Tryz.prog W = .ok (s == s' && (t == t' && true)) W :=
  struct_eq (d := d + 1) Tryz.underlying61 (by kernel_rfl) (eqFields_cons (by decide) (pieceEq_int Tryz.underlying3 rfl rfl) (eqFields_cons (by decide) (pieceEq_int Tryz.underlying3 rfl rfl) (eqFields_nil _ _ _))) W
theorem pol_eq (d : Nat) (p q : Pol) (W : World) : (Op.equalIn (d + 4) 64 (.agg p.arr) (.agg q.arr)).run Tryz.prog W = .ok (samePol p q) W := by
  refine struct_eq (d := d + 3) Tryz.underlying64 (by kernel_rfl) (fun W => ?_) W
  refine eqFields_cons (by decide) (pieceEq_int (k := .i64) (n := p.win) (m := q.win) Tryz.underlying3 rfl rfl) (fun W => ?_) W
  refine eqFields_cons (by decide) (pieceEq_bool (b := p.fin) (c := q.fin) Tryz.underlying4 rfl rfl) (fun W => ?_) W
  refine eqFields_cons (by decide) (pieceEq_bool (b := p.exc) (c := q.exc) Tryz.underlying4 rfl rfl) (fun W => ?_) W
  refine eqFields_cons (by decide) (pieceEq_bool (b := p.cre) (c := q.cre) Tryz.underlying4 rfl rfl) (fun W => ?_) W
  refine eqFields_cons (by decide) (pieceEq_agg Tryz.underlying59 rfl info_fees fun W => ?_) (fun W => ?_) W
  · obtain ⟨i, hi⟩ : ∃ i, Tryz.prog.info? 3 = some i := ⟨_, rfl⟩
    refine array_eq (d := d + 2) Tryz.underlying59 hi (fun W => ?_) W
    rw [cells_intp]
    refine eqItems_cons (i := 0) (pieceEq_int (k := .i64) (n := p.fee 0) (m := q.fee 0) Tryz.underlying3 rfl rfl) (fun W => ?_) W
    refine eqItems_cons (i := 1) (pieceEq_int (k := .i64) (n := p.fee 1) (m := q.fee 1) Tryz.underlying3 rfl rfl) (fun W => ?_) W
    refine eqItems_cons (i := 2) (pieceEq_int (k := .i64) (n := p.fee 2) (m := q.fee 2) Tryz.underlying3 rfl rfl) (fun W => ?_) W
    exact eqItems_cons (i := 3) (pieceEq_int (k := .i64) (n := p.fee 3) (m := q.fee 3) Tryz.underlying3 rfl rfl) (eqItems_nil _ _ _ _ _) W
  · refine eqFields_cons (by decide) (pieceEq_agg Tryz.underlying62 rfl info_grades fun W => ?_) (eqFields_nil _ _ _) W
    obtain ⟨i, hi⟩ := info_some info_grade
    refine array_eq (d := d + 2) Tryz.underlying62 hi (fun W => ?_) W
    rw [cells_grade]
    refine eqItems_cons (i := 0) (pieceEq_agg Tryz.underlying61 rfl info_grade fun W => grade_eq d (p.share 0) (p.dest 0) (q.share 0) (q.dest 0) W) (fun W => ?_) W
    refine eqItems_cons (i := 1) (pieceEq_agg Tryz.underlying61 rfl info_grade fun W => grade_eq d (p.share 1) (p.dest 1) (q.share 1) (q.dest 1) W) (fun W => ?_) W
    refine eqItems_cons (i := 2) (pieceEq_agg Tryz.underlying61 rfl info_grade fun W => grade_eq d (p.share 2) (p.dest 2) (q.share 2) (q.dest 2) W) (fun W => ?_) W
    exact eqItems_cons (i := 3) (pieceEq_agg Tryz.underlying61 rfl info_grade fun W => grade_eq d (p.share 3) (p.dest 3) (q.share 3) (q.dest 3) W) (eqItems_nil _ _ _ _ _) W

def sameLn (a b : Ln) : Bool := a.sku == b.sku && (a.cat == b.cat && (a.price == b.price && (a.count == b.count && true)))
theorem sameLn_iff {a b : Ln} : sameLn a b = true ↔ a = b := by
  cases a; cases b
  simp [sameLn]
theorem ln_eq (d : Nat) (a b : Ln) (W : World) : (Op.equalIn (d + 2) 54 (.agg a.arr) (.agg b.arr)).run Tryz.prog W = .ok (sameLn a b) W := by
  refine struct_eq (d := d + 1) Tryz.underlying54 (by kernel_rfl) (fun W => ?_) W
  refine eqFields_cons (by decide) (pieceEq_int (k := .i64) (n := a.sku) (m := b.sku) Tryz.underlying3 rfl rfl) (fun W => ?_) W
  refine eqFields_cons (by decide) (pieceEq_int (k := .i64) (n := a.cat) (m := b.cat) Tryz.underlying3 rfl rfl) (fun W => ?_) W
  refine eqFields_cons (by decide) (pieceEq_int (k := .i64) (n := a.price) (m := b.price) Tryz.underlying2 rfl rfl) (fun W => ?_) W
  exact eqFields_cons (by decide) (pieceEq_int (k := .i64) (n := a.count) (m := b.count) Tryz.underlying3 rfl rfl) (eqFields_nil _ _ _) W
def sameSup (a b : Sup) : Bool := a.sku == b.sku && (a.price == b.price && (a.count == b.count && true))
theorem sameSup_iff {a b : Sup} : sameSup a b = true ↔ a = b := by
  cases a; cases b
  simp [sameSup]
theorem sup_eq (d : Nat) (a b : Sup) (W : World) : (Op.equalIn (d + 2) 42 (.agg a.arr) (.agg b.arr)).run Tryz.prog W = .ok (sameSup a b) W := by
  refine struct_eq (d := d + 1) Tryz.underlying42 (by kernel_rfl) (fun W => ?_) W
  refine eqFields_cons (by decide) (pieceEq_int (k := .i64) (n := a.sku) (m := b.sku) Tryz.underlying3 rfl rfl) (fun W => ?_) W
  refine eqFields_cons (by decide) (pieceEq_int (k := .i64) (n := a.price) (m := b.price) Tryz.underlying2 rfl rfl) (fun W => ?_) W
  exact eqFields_cons (by decide) (pieceEq_int (k := .i64) (n := a.count) (m := b.count) Tryz.underlying3 rfl rfl) (eqFields_nil _ _ _) W
end Go.Proofs.YtbiompjhenkieaaGreat
