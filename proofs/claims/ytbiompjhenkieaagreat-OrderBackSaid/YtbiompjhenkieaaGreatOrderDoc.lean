/-
  A config's bytes, as the document writes them; right configs of the same bytes are the same. Plain. Conditions: those of each theorem. What the calls of package order are to answer, as functions; rows of units. Plain. Conditions: those of each theorem.
-/
import Derived.Test.YtbiompjhenkieaaGreatUnitX
import Derived.Test.YtbiompjhenkieaaGreatCfgX
import Derived.Test.YtbiompjhenkieaaGreatRefSame
import Derived.Test.YtbiompjhenkieaaGreatTabX
import Derived.Laws.OwnMore
namespace Go.Proofs.YtbiompjhenkieaaGreat
open Go.RowKit
set_option maxRecDepth 100000

def lnBytes (l : Ln) : List UInt8 := le l.sku 2 ++ ([u8of l.cat] ++ (le l.price 8 ++ [u8of l.count]))
def lnsBytes (ls : List Ln) : List UInt8 := (ls.map lnBytes).flatten
def ordBytes (x : Ord) : List UInt8 := le x.day 4 ++ (le x.disc 8 ++ (le x.tax 8 ++ (le x.ship 8 ++ ([u8of x.lines.length] ++ lnsBytes x.lines))))
def ordsBytes (os : List Ord) : List UInt8 := (os.map ordBytes).flatten
def supBytes (s : Sup) : List UInt8 := le s.sku 2 ++ (le s.price 8 ++ [u8of s.count])
def supsBytes (ss : List Sup) : List UInt8 := (ss.map supBytes).flatten
def cfgBytes (C : Cfg) : List UInt8 := (le (tableBytes C.table).length 2 ++ tableBytes C.table) ++ ([u8of C.orders.length] ++ (ordsBytes C.orders ++ ([u8of C.sups.length] ++ supsBytes C.sups)))

theorem lnBytes_length (l : Ln) : (lnBytes l).length = 12 := by simp [lnBytes, le_length]
theorem supBytes_length (s : Sup) : (supBytes s).length = 11 := by simp [supBytes, le_length]
theorem lnsBytes_length (ls : List Ln) : (lnsBytes ls).length = 12 * ls.length := by
  induction ls with
  | nil => rfl
  | cons p ps ih => simp only [lnsBytes, List.map_cons, List.flatten_cons, List.length_append, lnBytes_length, List.length_cons] at ih ⊢; omega
theorem supsBytes_length (ls : List Sup) : (supsBytes ls).length = 11 * ls.length := by
  induction ls with
  | nil => rfl
  | cons p ps ih => simp only [supsBytes, List.map_cons, List.flatten_cons, List.length_append, supBytes_length, List.length_cons] at ih ⊢; omega
theorem ordBytes_length (x : Ord) : (ordBytes x).length = 29 + 12 * x.lines.length := by
  simp [ordBytes, le_length, lnsBytes_length]
  omega
theorem lnsBytes_take (ps : List Ln) (k : Nat) (h : k < ps.length) : lnsBytes (ps.take (k + 1)) = lnsBytes (ps.take k) ++ lnBytes ps[k] := by
  unfold lnsBytes
  rw [List.take_succ_eq_append_getElem h, List.map_append, List.flatten_append]
  simp
theorem ordsBytes_take (ps : List Ord) (k : Nat) (h : k < ps.length) : ordsBytes (ps.take (k + 1)) = ordsBytes (ps.take k) ++ ordBytes ps[k] := by
  unfold ordsBytes
  rw [List.take_succ_eq_append_getElem h, List.map_append, List.flatten_append]
  simp
theorem supsBytes_take (ps : List Sup) (k : Nat) (h : k < ps.length) : supsBytes (ps.take (k + 1)) = supsBytes (ps.take k) ++ supBytes ps[k] := by
  unfold supsBytes
  rw [List.take_succ_eq_append_getElem h, List.map_append, List.flatten_append]
  simp

theorem fits_of {v : Int} {n : Nat} (h0 : 0 ≤ v) (h1 : v < 2 ^ (8 * n)) : fits v n = true := by simp [fits, h0, h1]
theorem le_inj_fits {v u : Int} {n : Nat} (h0 : fits v n = true) (h1 : fits u n = true) (h : le v n = le u n) : v = u := by
  have e1 := numLe_fits h0
  have e2 := numLe_fits h1
  rw [h] at e1
  omega
/-- A number's bytes ahead of others. -/
theorem le_cut {v u : Int} {n : Nat} {r r' : List UInt8} (h0 : fits v n = true) (h1 : fits u n = true) (h : le v n ++ r = le u n ++ r') : v = u ∧ r = r' := by
  obtain ⟨h2, h3⟩ := List.append_inj h (by rw [le_length, le_length])
  exact ⟨le_inj_fits h0 h1 h2, h3⟩
theorem u8_cut {v u : Int} {r r' : List UInt8} (h0 : 0 ≤ v ∧ v < 256) (h1 : 0 ≤ u ∧ u < 256) (h : [u8of v] ++ r = [u8of u] ++ r') : v = u ∧ r = r' := by
  obtain ⟨h2, h3⟩ := List.append_inj h rfl
  injection h2 with h2 _
  exact ⟨u8of_inj h0 h1 h2, h3⟩
theorem flat_cut {α : Type} (f : α → List UInt8) (ok : α → Prop) (hf : ∀ x y r r', ok x → ok y → f x ++ r = f y ++ r' → x = y ∧ r = r') : ∀ (xs ys : List α) (r r' : List UInt8), (∀ x ∈ xs, ok x) → (∀ x ∈ ys, ok x) → xs.length = ys.length → (xs.map f).flatten ++ r = (ys.map f).flatten ++ r' → xs = ys ∧ r = r'
  | [], [], r, r', _, _, _, h => ⟨rfl, h⟩
  | x :: xs, y :: ys, r, r', hx, hy, hl, h => by
    simp only [List.map_cons, List.flatten_cons, List.append_assoc] at h
    obtain ⟨rfl, h2⟩ := hf x y _ _ (hx x (List.mem_cons_self ..)) (hy y (List.mem_cons_self ..)) h
    obtain ⟨rfl, h3⟩ := flat_cut f ok hf xs ys r r' (fun z hz => hx z (List.mem_cons_of_mem _ hz)) (fun z hz => hy z (List.mem_cons_of_mem _ hz)) (by simpa using hl) h2
    exact ⟨rfl, h3⟩
/-- Numbers of a line, of a supply, that bytes hold. -/
def LnSmall (l : Ln) : Prop := (0 ≤ l.sku ∧ l.sku < 65536) ∧ (0 ≤ l.cat ∧ l.cat < 256) ∧ (0 ≤ l.price ∧ l.price ≤ 1073741824) ∧ (0 ≤ l.count ∧ l.count < 256)
def SupSmall (l : Sup) : Prop := (0 ≤ l.sku ∧ l.sku < 65536) ∧ (0 ≤ l.price ∧ l.price ≤ 1073741824) ∧ (0 ≤ l.count ∧ l.count < 256)
def OrdSmall (x : Ord) : Prop := (0 ≤ x.day ∧ x.day ≤ 100000) ∧ (0 ≤ x.disc ∧ x.disc ≤ 1073741824) ∧ (0 ≤ x.tax ∧ x.tax ≤ 1073741824) ∧ (0 ≤ x.ship ∧ x.ship ≤ 1073741824) ∧ x.lines.length ≤ 8 ∧ ∀ l ∈ x.lines, LnSmall l
theorem fits2 {v : Int} (h : 0 ≤ v ∧ v < 65536) : fits v 2 = true := by
  have e : (2 : Int) ^ (8 * 2) = 65536 := by decide
  exact fits_of h.1 (by rw [e]; omega)
theorem fits4 {v : Int} (h : 0 ≤ v ∧ v ≤ 100000) : fits v 4 = true := by
  have e : (2 : Int) ^ (8 * 4) = 4294967296 := by decide
  exact fits_of h.1 (by rw [e]; omega)
theorem fits8 {v : Int} (h : 0 ≤ v ∧ v ≤ 1073741824) : fits v 8 = true := by
  have e : (2 : Int) ^ (8 * 8) = 18446744073709551616 := by decide
  exact fits_of h.1 (by rw [e]; omega)
theorem ln_cut (a b : Ln) (r r' : List UInt8) (ha : LnSmall a) (hb : LnSmall b) (h : lnBytes a ++ r = lnBytes b ++ r') : a = b ∧ r = r' := by
  obtain ⟨a1, a2, a3, a4⟩ := ha
  obtain ⟨b1, b2, b3, b4⟩ := hb
  unfold lnBytes at h
  simp only [List.append_assoc] at h
  obtain ⟨e1, h⟩ := le_cut (fits2 a1) (fits2 b1) h
  obtain ⟨e2, h⟩ := u8_cut a2 b2 h
  obtain ⟨e3, h⟩ := le_cut (fits8 a3) (fits8 b3) h
  obtain ⟨e4, hr⟩ := u8_cut a4 b4 h
  obtain ⟨s, c, p, n⟩ := a
  obtain ⟨s', c', p', n'⟩ := b
  simp only at e1 e2 e3 e4
  subst e1 e2 e3 e4
  exact ⟨rfl, hr⟩
theorem sup_cut (a b : Sup) (r r' : List UInt8) (ha : SupSmall a) (hb : SupSmall b) (h : supBytes a ++ r = supBytes b ++ r') : a = b ∧ r = r' := by
  obtain ⟨a1, a2, a3⟩ := ha
  obtain ⟨b1, b2, b3⟩ := hb
  unfold supBytes at h
  simp only [List.append_assoc] at h
  obtain ⟨e1, h⟩ := le_cut (fits2 a1) (fits2 b1) h
  obtain ⟨e2, h⟩ := le_cut (fits8 a2) (fits8 b2) h
  obtain ⟨e3, hr⟩ := u8_cut a3 b3 h
  obtain ⟨s, c, p⟩ := a
  obtain ⟨s', c', p'⟩ := b
  simp only at e1 e2 e3
  subst e1 e2 e3
  exact ⟨rfl, hr⟩
theorem ord_cut (a b : Ord) (r r' : List UInt8) (ha : OrdSmall a) (hb : OrdSmall b) (h : ordBytes a ++ r = ordBytes b ++ r') : a = b ∧ r = r' := by
  obtain ⟨a1, a2, a3, a4, a5, a6⟩ := ha
  obtain ⟨b1, b2, b3, b4, b5, b6⟩ := hb
  unfold ordBytes at h
  simp only [List.append_assoc] at h
  obtain ⟨e1, h⟩ := le_cut (fits4 a1) (fits4 b1) h
  obtain ⟨e2, h⟩ := le_cut (fits8 a2) (fits8 b2) h
  obtain ⟨e3, h⟩ := le_cut (fits8 a3) (fits8 b3) h
  obtain ⟨e4, h⟩ := le_cut (fits8 a4) (fits8 b4) h
  obtain ⟨e5, h⟩ := u8_cut ⟨by omega, by omega⟩ ⟨by omega, by omega⟩ h
  obtain ⟨e6, hr⟩ := flat_cut lnBytes LnSmall ln_cut a.lines b.lines r r' a6 b6 (by omega) h
  obtain ⟨d, l, x, y, z⟩ := a
  obtain ⟨d', l', x', y', z'⟩ := b
  simp only at e1 e2 e3 e4 e6
  subst e1 e2 e3 e4 e6
  exact ⟨rfl, hr⟩
theorem right_parts {C : Cfg} (h : rightC C = true) : rightT C.table = true ∧ C.orders.length ≤ 20 ∧ C.sups.length ≤ 20 ∧ (∀ x ∈ C.orders, OrdSmall x) ∧ ∀ s ∈ C.sups, SupSmall s := by
  unfold rightC at h
  simp only [Bool.and_eq_true, decide_eq_true_eq] at h
  obtain ⟨⟨⟨⟨⟨⟨h1, h2⟩, h3⟩, h4⟩, h5⟩, h6⟩, h7⟩ := h
  have ht := (rightT_facts h1).1
  refine ⟨h1, h2, h3, fun x hx => ?_, fun s hs => ?_⟩
  · have hb := List.all_eq_true.1 h4 x hx
    unfold ordB headB at hb
    simp only [Bool.and_eq_true, decide_eq_true_eq] at hb
    refine ⟨hb.1.1.1.1.1.1, of_decide_eq_true hb.1.1.1.1.2, of_decide_eq_true hb.1.1.1.2, of_decide_eq_true hb.1.1.2, hb.1.1.1.1.1.2.2, fun l hl => ?_⟩
    have hk := line_ok (List.all_eq_true.1 hb.1.2 l hl)
    have k1 := hk.sku
    have k2 := hk.cat
    have k3 := hk.count
    exact ⟨⟨by omega, by omega⟩, ⟨by omega, by omega⟩, hk.price, ⟨by omega, by omega⟩⟩
  · have hk := sup_ok (List.all_eq_true.1 h5 s hs)
    have k1 := hk.sku
    have k3 := hk.count
    exact ⟨⟨by omega, by omega⟩, hk.price, ⟨by omega, by omega⟩⟩
theorem sameBy_map {α β : Type} {f : α → α → Bool} {g : α → β} (hf : ∀ a b, f a b = true ↔ g a = g b) : ∀ {xs ys : List α}, xs.map g = ys.map g → sameBy f xs ys = true := by
  intro xs ys h
  have hl : xs.length = ys.length := by simpa using congrArg List.length h
  refine sameBy_all hl fun k h1 h2 => ?_
  rw [hf]
  have := congrArg (fun l => l[k]?) h
  simpa [h1, h2] using this
theorem sameOrd_self (x : Ord) : sameOrd x x = true := by
  unfold sameOrd sameHead
  rw [(sameBy_iff (f := sameLn) (fun _ _ => sameLn_iff)).2 rfl]
  simp
theorem sameC_self (C : Cfg) : sameC C C = true := by
  unfold sameC
  rw [sameBy_map (f := samePol) (g := Pol.arr) (fun _ _ => samePol_iff) rfl, (sameBy_iff (f := sameSup) (fun _ _ => sameSup_iff)).2 rfl, sameBy_all (f := sameOrd) rfl (fun k h1 h2 => sameOrd_self _)]
  rfl
/-- Right configs of the same bytes are alike. -/
theorem cfg_inj {C D : Cfg} (hC : rightC C = true) (hD : rightC D = true) (h : cfgBytes C = cfgBytes D) : sameC C D = true := by
  obtain ⟨c1, c2, c3, c4, c5⟩ := right_parts hC
  obtain ⟨d1, d2, d3, d4, d5⟩ := right_parts hD
  have l1 := tableBytes_length C.table
  have l2 := tableBytes_length D.table
  have m1 := (rightT_facts c1).1
  have m2 := (rightT_facts d1).1
  unfold cfgBytes at h
  simp only [List.append_assoc] at h
  obtain ⟨e1, h⟩ := le_cut (fits2 ⟨by omega, by omega⟩) (fits2 ⟨by omega, by omega⟩) h
  obtain ⟨e2, h⟩ := List.append_inj h (by omega)
  obtain ⟨e3, h⟩ := u8_cut ⟨by omega, by omega⟩ ⟨by omega, by omega⟩ h
  obtain ⟨e4, h⟩ := flat_cut ordBytes OrdSmall ord_cut C.orders D.orders _ _ c4 d4 (by omega) h
  obtain ⟨e5, h⟩ := u8_cut ⟨by omega, by omega⟩ ⟨by omega, by omega⟩ h
  obtain ⟨e6, -⟩ := flat_cut supBytes SupSmall sup_cut C.sups D.sups [] [] c5 d5 (by omega) (by rw [List.append_nil, List.append_nil]; exact h)
  unfold sameC
  rw [e4, e6, sameBy_map (f := samePol) (g := Pol.arr) (fun _ _ => samePol_iff) (table_inj c1 d1 e2).2, (sameBy_iff (f := sameSup) (fun _ _ => sameSup_iff)).2 rfl, sameBy_all (f := sameOrd) rfl (fun k h1 h2 => sameOrd_self _)]
  rfl
end Go.Proofs.YtbiompjhenkieaaGreat

namespace Go.Proofs.YtbiompjhenkieaaGreat
open Go.RowKit
set_option maxRecDepth 100000

/-- Units in memory, one behind the other. -/
def UntsAt (w : World) (a : Option Addr) (us : List Unt) : Prop := RowAt (fun w b o u => ArrAt w b o (Unt.arr u)) 4 w a us
theorem UntsAt.below {w w' : World} {a : Option Addr} {us : List Unt} (h : UntsAt w a us) (k : Below w.heap.size w w') : UntsAt w' a us := RowAt.map h k.size fun _ _ _ _ hx => hx.grown k
theorem untAt_all {w : World} {b o : Nat} {u : Unt} (h : ArrAt w b o u.arr) : w.cell? ⟨b, o, none⟩ = some (.int .i64 u.ord) ∧ w.cell? ⟨b, o + 1, none⟩ = some (.int .i64 u.sku) ∧ w.cell? ⟨b, o + 2, none⟩ = some (.int .i64 u.cat) ∧ w.cell? ⟨b, o + 3, none⟩ = some (.int .i64 u.share) :=
  ⟨h.cells 0 _ rfl, h.cells 1 _ rfl, h.cells 2 _ rfl, h.cells 3 _ rfl⟩
theorem unts_of_row {w : World} {base : Nat} {t : TypeId} {a : Option Addr} {n c : Nat} {us : List Unt} (h : w.ownsRow base t 4 (.slice a n c) n (unitCells us)) : us.length = n ∧ n ≤ c ∧ UntsAt w a us := by
  have hl := h.1
  rw [unitCells_length] at hl
  have hn : us.length = n := by omega
  by_cases h0 : n = 0
  · subst h0
    refine ⟨hn, Nat.zero_le _, .inl (List.length_eq_zero_iff.1 hn)⟩
  · rcases h.2 with ⟨-, x⟩ | ⟨g, cap, cur, hv, hgb, hgc, hle, -, -, -⟩
    · omega
    · injection hv with e1 e2 e3
      subst e1 e3
      have hgl : g < w.heap.size := by
        rcases Nat.lt_or_ge g w.heap.size with x | x
        · exact x
        · rw [Array.getElem?_eq_none x] at hgc; cases hgc
      refine ⟨hn, hle, .inr ⟨g, 0, rfl, hgl, fun i hi => ⟨hgl, fun j v hj => ?_⟩⟩⟩
      have hj4 : j < 4 := (Array.getElem?_eq_some_iff.1 hj).1
      rw [Nat.zero_add, World.ownsRow.cellAt h (i * 4 + j) (by omega)]
      exact unitCells_get us i j v hi hj
def errC (C : Cfg) : Int := if rightC C then 0 else 1
def unitsV (C : Cfg) : List Unt := if rightC C then unitsC C else []
def priceV (C : Cfg) (sku : Int) : Int := (priceOf C.sups sku).getD 0
def priceE (C : Cfg) (sku : Int) : Int := if (priceOf C.sups sku).isSome then 0 else 7
/-- The slices' capacities. -/
structure CfgCaps (no co ns cs nt ct : Nat) : Prop where
  o : no ≤ co ∧ co ≤ maxLen
  s : ns ≤ cs ∧ cs ≤ maxLen
  t : nt ≤ ct ∧ ct ≤ maxLen
theorem cfg_caps {w : World} {aO aS aT : Option Addr} {no co ns cs nt ct : Nat} (h : Rd Tryz.prog w 26 (cfgCells aO no co aS ns cs aT nt ct).toList) : CfgCaps no co ns cs nt ct := by
  have f0 : Rd Tryz.prog w 22 [.slice aO no co] := h.field Tryz.underlying26 0 rfl rfl rfl cells_cords
  have f1 : Rd Tryz.prog w 23 [.slice aS ns cs] := h.field Tryz.underlying26 1 rfl rfl rfl cells_csups
  have f2 : Rd Tryz.prog w 24 [.slice aT nt ct] := h.field Tryz.underlying26 2 rfl rfl rfl cells_cpols
  obtain ⟨a0, n0, c0, e0, p0, q0, -, -⟩ := f0.slice_at Tryz.underlying22 cells_ord (by decide)
  obtain ⟨a1, n1, c1, e1, p1, q1, -, -⟩ := f1.slice_at Tryz.underlying23 cells_sup (by decide)
  obtain ⟨a2, n2, c2, e2, p2, q2, -, -⟩ := f2.slice_at Tryz.underlying24 cells_pol (by decide)
  injection e0 with e0 _
  injection e1 with e1 _
  injection e2 with e2 _
  injection e0 with x1 x2 x3
  injection e1 with y1 y2 y3
  injection e2 with z1 z2 z3
  subst x1 x2 x3 y1 y2 y3 z1 z2 z3
  exact ⟨⟨p0, q0⟩, ⟨p1, q1⟩, ⟨p2, q2⟩⟩
end Go.Proofs.YtbiompjhenkieaaGreat
