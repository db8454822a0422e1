/-
  The document's units: recoupref05.Units. Conditions: those of each theorem.
-/
import Derived.Test.YtbiompjhenkieaaUnitX
import Derived.Test.YtbiompjhenkieaaRefSplit
import Derived.Test.YtbiompjhenkieaaBase
import Derived.Test.YtbiompjhenkieaaLeX
import Derived.Test.YtbiompjhenkieaaRefRight
import Derived.Test.YtbiompjhenkieaaSplitX
import Derived.Deep.RegionHeld3
import Derived.Deep.DeepCutAuto
import Derived.Deep.AppendLies
import Derived.StillTailTactics
import Derived.Laws.OwnMore
namespace Go.Proofs.Ytbiompjhenkieaa
open Go.RowKit
set_option maxRecDepth 100000

theorem info_unitr : (Try.prog.info? 36).map (fun i => (i.zero, i.size, i.bytes)) = some (some (.agg #[.int .i64 0, .int .i64 0, .int .i64 0, .int .i64 0]), 4, 32) := by kernel_rfl
theorem info_i64r : (Try.prog.info? 2).map (fun i => (i.zero, i.size, i.bytes)) = some (some (.int .i64 0), 1, 8) := by kernel_rfl

def supOne (s : Sup) : Unt := ⟨-1, s.sku, 0, s.price⟩
theorem unit_news (w : World) (u : Unt) (t : TypeId) : ∀ j v, u.arr.toList[j]? = some v → (w.alloc (.cells u.arr t)).cell? ((⟨w.heap.size, 0, none⟩ : Addr).add j) = some v := by
  intro j v hj
  have e : (⟨w.heap.size, 0, none⟩ : Addr).add j = ⟨w.heap.size, 0 + j, none⟩ := by unfold Addr.add; split <;> simp_all
  rw [e]
  exact (arr_new w u.arr t).cells j v (by rwa [Array.getElem?_toList] at hj)
theorem countsO_mem {cats : Nat} : ∀ {os : List Ord} {x : Ord}, os.all (ordB cats) = true → x ∈ os → counts x.lines ≤ countsO os
  | y :: os, x, h, hx => by
    rw [List.all_cons, Bool.and_eq_true] at h
    have hy : 0 ≤ counts y.lines := by
      have h1 := h.1
      unfold ordB at h1
      simp only [Bool.and_eq_true] at h1
      exact (total_bounds h1.1.2).2.2.1
    have ho := countsO_bounds cats (k := os.length) h.2 (Nat.le_refl _)
    simp only [countsO]
    rcases List.mem_cons.1 hx with rfl | hx
    · omega
    · have := countsO_mem h.2 hx
      omega
theorem counts_most {C : Cfg} (h : rightC C = true) {x : Ord} (hx : x ∈ C.orders) : counts x.lines ≤ 200 := by
  unfold rightC at h
  simp only [Bool.and_eq_true, decide_eq_true_eq] at h
  have h1 := countsO_mem h.1.1.1.2 hx
  have h2 := countsS_bounds (k := C.sups.length) h.1.1.2 (Nat.le_refl _)
  omega
theorem rightW_prices {cats : Nat} {x : Ord} (h : ordB cats x = true) (hc : counts x.lines ≤ 200) : rightW (prices x.lines) = true ∧ (prices x.lines).sum ≤ 1125899906842624 ∧ 1 ≤ (prices x.lines).length ∧ (prices x.lines).length ≤ 200 := by
  have hb := h
  unfold ordB headB at hb
  simp only [Bool.and_eq_true, decide_eq_true_eq] at hb
  have hl := prices_length hb.1.2
  have ht := total_bounds hb.1.2
  have h1 : 1 ≤ counts x.lines := by
    have hlen := hb.1.1.1.1.1.2.1
    cases hx : x.lines with
    | nil => rw [hx] at hlen; simp at hlen
    | cons l ls =>
      have hal := hb.1.2
      rw [hx, List.all_cons, Bool.and_eq_true] at hal
      have := (line_ok hal.1).count
      have := total_bounds hal.2
      simp only [counts]
      omega
  refine ⟨?_, ?_, by omega, by omega⟩
  · unfold rightW few
    rw [decide_eq_true (by omega), Bool.true_and, List.all_eq_true]
    intro p hp
    have := prices_all hb.1.2 p hp
    exact decide_eq_true (by omega)
  · rw [prices_sum hb.1.2]
    have := hb.1.1.1.1.1.2.2
    omega
theorem okW_price {n : Int} (h : priceB n = true) : okW n = true := by
  have := of_decide_eq_true h
  exact decide_eq_true (by omega)
theorem share_small {s : Int} {ws : List Int} (hr : rightW ws = true) (hs : okW s = true) (hm : ws.sum ≤ 1125899906842624) (k : Nat) : 0 ≤ (sharesOf s ws).getD k 0 ∧ (sharesOf s ws).getD k 0 ≤ s + 1 := by
  have h := wsOf_weights hr hs hm
  have hs0 := okW_yes hs
  by_cases hk : k < (sharesOf s ws).length
  · have e : (sharesOf s ws).getD k 0 = shareAt s (wsOf ws) (wsOf ws).sum k := by
      rw [List.getD, List.getElem?_eq_getElem hk]
      exact sharesOf_at hk
    rw [e]
    have hq := h.quo k
    rcases share_near s (wsOf ws) (wsOf ws).sum k with x | x <;> omega
  · rw [List.getD, List.getElem?_eq_none (by omega)]
    simp
    omega
theorem row_at {us : List Unt} {bs : List Unt} {x : Ord} {t : Nat} (h : t < bs.length) : (unitCells (us ++ adjTo x bs t))[(us.length + t) * 4 + 3]? = some (.int .i64 (bs[t]).share) := by
  refine unitCells_get _ (us.length + t) 3 _ (by rw [List.length_append, adjTo_length]; omega) ?_
  rw [List.getElem_append_right (by omega)]
  have e : (adjTo x bs t)[us.length + t - us.length]'(by rw [adjTo_length]; omega) = bs[t] := by
    have h1 := adjTo_at x bs t h
    simp only [Nat.add_sub_cancel_left]
    exact h1
  rw [e]
  rfl
theorem row_set {us : List Unt} {bs : List Unt} {x : Ord} {t : Nat} (h : t < bs.length) : (unitCells (us ++ adjTo x bs t)).set ((us.length + t) * 4 + 3) (.int .i64 ((bs[t]).share + delta x t)) = unitCells (us ++ adjTo x bs (t + 1)) := by
  have h1 : us.length + t < (us ++ adjTo x bs t).length := by rw [List.length_append, adjTo_length]; omega
  rw [unitCells_set _ _ h1]
  congr 1
  have e : (us ++ adjTo x bs t)[us.length + t] = bs[t] := by
    rw [List.getElem_append_right (by omega)]
    have h2 := adjTo_at x bs t h
    simp only [Nat.add_sub_cancel_left]
    exact h2
  rw [e, List.set_append_right _ _ (by omega), Nat.add_sub_cancel_left, ← adjTo_step x bs t h]
theorem bases_share (i : Nat) (ls : List Ln) (t : Nat) (h : t < (bases i ls).length) (h' : t < (prices ls).length) : (bases i ls)[t].share = (prices ls)[t] := by
  have e : (bases i ls).map Unt.share = prices ls := by
    unfold bases prices
    rw [List.map_flatten, List.map_map]
    congr 1
    apply List.map_congr_left
    intro l _
    simp [baseU]
  have := congrArg (fun l => l[t]?) e
  simp only [List.getElem?_map, List.getElem?_eq_getElem h, List.getElem?_eq_getElem h', Option.map_some] at this
  injection this
theorem ints_at {W : World} {O n : Nat} {xs : List Int} (h : IsInts W (some ⟨O, 0, none⟩) xs) (hn : xs.length = n) (h0 : 0 < n) : O < W.heap.size ∧ ∀ t, t < n → W.cell? ⟨O, t, none⟩ = some (.int .i64 (xs.getD t 0)) := by
  rcases h with rfl | ⟨b, off, e, hb, hc⟩
  · simp at hn; omega
  · injection e with e
    injection e with e1 e2
    subst e1 e2
    refine ⟨hb, fun t ht => ?_⟩
    have hl : t < xs.length := by omega
    have := hc t hl
    rw [Nat.zero_add] at this
    rw [this]
    simp [hl]
theorem one_news (w : World) (u : Value) (t : TypeId) : ∀ j v, [u][j]? = some v → (w.alloc (.cells #[u] t)).cell? ((⟨w.heap.size, 0, none⟩ : Addr).add j) = some v := by
  intro j v hj
  have e : (⟨w.heap.size, 0, none⟩ : Addr).add j = ⟨w.heap.size, 0 + j, none⟩ := by unfold Addr.add; split <;> simp_all
  rw [e]
  exact (arr_new w #[u] t).cells j v (by simpa using hj)
/-- What the loops hold: a row of units, and one of prices, both the call's own, beside a box. -/
structure Uns (w1 W : World) (go : Nat) (cs : Array Value) (a : Option Addr) (n c : Nat) (us : List Unt) (ap : Option Addr) (np cp : Nat) (ps : List Int) : Prop where
  row : W.ownsRow w1.heap.size 36 4 (.slice a n c) n (unitCells us)
  pr : W.ownsRow w1.heap.size 2 1 (.slice ap np cp) np (ps.map (Value.int .i64))
  below : Below w1.heap.size w1 W
  box : ArrAt W go 0 cs
  nog : ∀ g, (Value.slice a n c).ownBlock = some g → g ≠ go
  nop : ∀ g, (Value.slice ap np cp).ownBlock = some g → g ≠ go ∧ (Value.slice a n c).ownBlock ≠ some g
section
variable {w1 W W' w9 : World} {go n c np cp : Nat} {cs : Array Value} {a ap : Option Addr} {us : List Unt} {ps : List Int}
theorem Uns.later (h : Uns w1 W go cs a n c us ap np cp ps) (hb : Below W.heap.size W W') : Uns w1 W' go cs a n c us ap np cp ps :=
  ⟨ownsRow_upd h.row (below_upd (fun _ => False) hb) (fun _ _ x => x), ownsRow_upd h.pr (below_upd (fun _ => False) hb) (fun _ _ x => x), h.below.trans (hb.mono h.below.size), h.box.grown hb, h.nog, h.nop⟩
theorem Uns.len (h : Uns w1 W go cs a n c us ap np cp ps) : us.length = n ∧ ps.length = np := by
  have h1 := h.row.1
  have h2 := h.pr.1
  rw [unitCells_length] at h1
  simp at h2
  omega
theorem Uns.store {gu : Nat} (h : Uns w1 W go cs (some ⟨gu, 0, none⟩) n c us ap np cp ps) (j : Nat) (v : Value) {us' : List Unt} (he : (unitCells us).set j v = unitCells us') : Uns w1 (W.setCell ⟨gu, j, none⟩ v) go cs (some ⟨gu, 0, none⟩) n c us' ap np cp ps := by
  have h1 := (h.row.stored j v).1
  rw [he] at h1
  have hu := upd_set (w := W) (p := gu) j v
  have hg := h.row.lt gu rfl
  exact ⟨h1, ownsRow_upd h.pr hu (fun g hg e => (h.nop g hg).2 (by rw [e]; rfl)), h.below.trans (upd_below hu h.below.size (fun k e => by have e' : k = gu := e; omega)), h.box.upd hu (fun e => h.nog gu rfl e.symm), h.nog, h.nop⟩
theorem Uns.drew (h : Uns w1 W go cs a n c us ap np cp ps) : Uns w1 W.drew go cs a n c us ap np cp ps := h.later ⟨rfl, rfl, rfl, Nat.le_refl _, fun _ _ => rfl⟩
theorem Uns.push (h : Uns w1 W go cs a n c us ap np cp ps) (hb : Below W.heap.size W W') {a9 : Option Addr} {c9 : Nat} {u : Unt}
    (r1 : w9.ownsRow w1.heap.size 36 4 (.slice a9 (n + 1) c9) (n + 1) (unitCells us ++ u.arr.toList)) (r2 : W'.grownBy w9 (Value.slice a n c).ownBlock) (r3 : ∀ g, (Value.slice a9 (n + 1) c9).ownBlock = some g → (Value.slice a n c).ownBlock = some g ∨ g = W'.heap.size) :
    Uns w1 w9 go cs a9 (n + 1) c9 (us ++ [u]) ap np cp ps := by
  have h' := h.later hb
  have hu : Upd (fun g => (Value.slice a n c).ownBlock = some g) W' w9 := (Upd.refl _ _).grown r2 (fun k hk => .inl hk)
  have hgo := h'.box.lt
  refine ⟨by rw [unitCells_snoc]; exact r1, ownsRow_upd h'.pr hu (fun g hg e => (h'.nop g hg).2 e), h'.below.trans (upd_below hu h'.below.size (fun k e => (h'.row.lt k e).1)), h'.box.upd hu (fun e => h'.nog _ e rfl), fun g hg e => ?_, fun g hg => ⟨(h'.nop g hg).1, fun e => ?_⟩⟩
  · rcases r3 g hg with x | x
    · exact h'.nog g x e
    · omega
  · rcases r3 g e with x | x
    · exact (h'.nop g hg).2 x
    · have := (h'.pr.lt g hg).2; omega
theorem Uns.pushPrice (h : Uns w1 W go cs a n c us ap np cp ps) (hb : Below W.heap.size W W') {a9 : Option Addr} {c9 : Nat} {p : Int}
    (r1 : w9.ownsRow w1.heap.size 2 1 (.slice a9 (np + 1) c9) (np + 1) (ps.map (Value.int .i64) ++ [.int .i64 p])) (r2 : W'.grownBy w9 (Value.slice ap np cp).ownBlock) (r3 : ∀ g, (Value.slice a9 (np + 1) c9).ownBlock = some g → (Value.slice ap np cp).ownBlock = some g ∨ g = W'.heap.size) :
    Uns w1 w9 go cs a n c us a9 (np + 1) c9 (ps ++ [p]) := by
  have h' := h.later hb
  have hu : Upd (fun g => (Value.slice ap np cp).ownBlock = some g) W' w9 := (Upd.refl _ _).grown r2 (fun k hk => .inl hk)
  have hgo := h'.box.lt
  refine ⟨ownsRow_upd h'.row hu (fun g hg e => (h'.nop g e).2 hg), by rw [List.map_append]; exact r1, h'.below.trans (upd_below hu h'.below.size (fun k e => (h'.pr.lt k e).1)), h'.box.upd hu (fun e => (h'.nop _ e).1 rfl), h'.nog, fun g hg => ⟨fun e => ?_, fun e => ?_⟩⟩
  · rcases r3 g hg with x | x
    · exact (h'.nop g x).1 e
    · omega
  · rcases r3 g hg with x | x
    · exact (h'.nop g x).2 e
    · have := (h'.row.lt g e).2; omega
end

set_option maxHeartbeats 8000000 in
theorem ref_units (aO aS aT : Option Addr) (no co ns cs nt ct : Nat) (C : Cfg) (w : World) (hC : CfgIs w aO no aS ns aT nt C) (hr : rightC C = true) :
    Calls Try.prog 11 #[.agg (cfgCells aO no co aS ns cs aT nt ct)] w fun e w' => (∃ a n c, e = .returned (.slice a n c) ∧ w'.ownsRow w.heap.size 36 4 (.slice a n c) n (unitCells (unitsC C))) ∧ Below w.heap.size w w' := by
  have hbox := arr_new w (cfgCells aO no co aS ns cs aT nt ct) 26
  have HBX : Aside _ := hbox
  have HB : Aside (Below w.heap.size w (w.alloc (.cells (cfgCells aO no co aS ns cs aT nt ct) 26))) := (Below.refl _ _).alloc (Nat.le_refl _) _
  have HC : Aside (CfgIs (w.alloc (.cells (cfgCells aO no co aS ns cs aT nt ct) 26)) aO no aS ns aT nt C) := hC.below (Below.alloc (Below.refl _ _) (Nat.le_refl _) _)
  have HRC := Lib.hid hr
  clear hbox hC hr
  go_enter Try.func11, Try.ntmps11
  go_upto_region 1 with (fail)
  show Code.wp _ _ _ _ (w.alloc (.cells (cfgCells aO no co aS ns cs aT nt ct) 26))
  generalize w.alloc (.cells (cfgCells aO no co aS ns cs aT nt ct) 26) = w1 at *
  obtain ⟨c0, c1, c2⟩ := cfgAt_all HBX.out
  simp only [Nat.zero_add] at c0 c1 c2
  clear c1 c2
  have hno20 : no ≤ 20 := by
    have h := HRC.out
    unfold rightC at h
    simp only [Bool.and_eq_true, decide_eq_true_eq] at h
    have := HC.out.ol
    omega
  go_wp2
  go_loopw [3, 17] (fun s i wr => ∃ (k n c : Nat) (a : Option Addr), k ≤ no ∧ n ≤ 400 * k ∧ i = .int .i64 k ∧ s = .slice a n c ∧ Aside (wr.ownsRow w1.heap.size 36 4 (.slice a n c) n (unitCells (ordsU C.orders k))) ∧ Aside (Below w1.heap.size w1 wr)) (fun _ i _ => no - (intOf i).toNat)
  case atStart => exact ⟨0, 0, 0, none, Nat.zero_le _, Nat.zero_le _, rfl, rfl, World.ownsRow_nil _ _ _ _, Below.refl _ _⟩
  case round =>
    obtain ⟨k, n, c, a, hk, hn400, rfl, rfl, HO, HW⟩ := hrel
    have HBXr : Aside _ := HBX.out.grown HW.out
    have HCr : Aside _ := HC.out.below HW.out
    clear c0
    obtain ⟨c0, c1, c2⟩ := cfgAt_all HBXr.out
    simp only [Nat.zero_add] at c0 c1 c2
    clear c1 c2
    by_cases hlt : k < no
    · have hkn : (k : Int) < (no : Int) := by omega
      obtain ⟨b, off, rfl, hb, hrow⟩ := HC.out.oa.at HC.out.ol (by omega)
      have hlk : k < C.orders.length := by rw [HC.out.ol]; exact hlt
      have hx := hrow k hlk
      have HXok : Hid (ordB nt C.orders[k] = true) := by
        show _ = _
        have h := HRC.out
        unfold rightC at h
        simp only [Bool.and_eq_true, List.all_eq_true] at h
        rw [← HC.out.tl]
        exact h.1.1.1.2 _ (List.getElem_mem hlk)
      have HXC : Hid (counts C.orders[k].lines ≤ 200) := counts_most HRC.out (List.getElem_mem hlk)
      have HNX : Hid (ordsU C.orders (k + 1) = ordsU C.orders k ++ ordU k C.orders[k]) := by
        show _ = _
        rw [ordsU, List.getD, List.getElem?_eq_getElem hlk]; rfl
      clear hrow
      generalize C.orders[k] = x at *
      generalize ordsU C.orders k = us at *
      obtain ⟨al, nl, cl, hcells, hnl, hncl, hclm, hla⟩ := hx
      obtain ⟨o0, o1, o2, o3, o4⟩ := ordAt_all (hcells.grown HW.out)
      have HL : Aside (LnsAt w1 al x.lines) := hla
      have HNL := Lib.hid hnl
      have HNU : Hid (us.length = n) := by
        show _ = _
        have := HO.out.1
        rw [unitCells_length] at this
        omega
      have hb1 : b < wr.heap.size := Nat.lt_of_lt_of_le hb HW.out.size
      unfold maxLen at hclm
      clear hcells hnl hla
      go_upto_region 6 with (fail)
      have hbo := arr_new wr (ordCells x.day al nl cl x.disc x.tax x.ship) 40
      have hBw : Below wr.heap.size wr (wr.alloc (.cells (ordCells x.day al nl cl x.disc x.tax x.ship) 40)) := (Below.refl _ _).alloc (Nat.le_refl _) _
      have HU3 : Aside (Uns w1 (wr.alloc (.cells (ordCells x.day al nl cl x.disc x.tax x.ship) 40)) wr.heap.size (ordCells x.day al nl cl x.disc x.tax x.ship) a n c (us ++ bases k (x.lines.take 0)) none 0 0 (prices (x.lines.take 0))) :=
        ⟨by rw [show bases k (x.lines.take 0) = [] from rfl, List.append_nil]; exact ownsRow_upd HO.out (below_upd (fun _ => False) hBw) (fun _ _ x => x), World.ownsRow_nil _ _ _ _, HW.out.trans (hBw.mono HW.out.size), hbo, fun g hg => Nat.ne_of_lt (HO.out.lt g hg).2, fun g hg => by simp [Value.ownBlock] at hg⟩
      clear hbo hBw o0 o1 o2 o3 o4 HBXr HCr HO HW c0
      show Code.wp _ _ _ _ (wr.alloc (.cells (ordCells x.day al nl cl x.disc x.tax x.ship) 40))
      generalize wr.alloc (.cells (ordCells x.day al nl cl x.disc x.tax x.ship) 40) = w3 at *
      generalize wr.heap.size = go at *
      generalize wr = wo1 at *
      obtain ⟨o0, o1, o2, o3, o4⟩ := ordAt_all HU3.out.box
      simp only [Nat.zero_add] at o0 o1 o2 o3 o4
      clear o0
      have hnl8 : Hid (nl ≤ 8) := by
        have h := HXok.out
        unfold ordB headB at h
        simp only [Bool.and_eq_true, decide_eq_true_eq] at h
        have := h.1.1.1.1.1.2
        have := HNL.out
        show _ ≤ _
        omega
      have HLA : Hid (x.lines.all (lineB nt) = true) := by
        have h := HXok.out
        unfold ordB at h
        simp only [Bool.and_eq_true] at h
        exact h.1.2
      have hnl8' := hnl8.out
      go_wp2
      go_loopw [3, 6, 30] (fun s3 s6 i wq => ∃ (m n' c' np cp : Nat) (a' ap : Option Addr), m ≤ nl ∧ n' ≤ n + 50 * m ∧ np ≤ 50 * m ∧ i = .int .i64 m ∧ s3 = .slice a' n' c' ∧ s6 = .slice ap np cp ∧ Aside (Uns w1 wq go (ordCells x.day al nl cl x.disc x.tax x.ship) a' n' c' (us ++ bases k (x.lines.take m)) ap np cp (prices (x.lines.take m)))) (fun _ _ i _ => nl - (intOf i).toNat)
      case atStart => exact ⟨0, n, c, 0, 0, a, none, Nat.zero_le _, by omega, Nat.zero_le _, rfl, rfl, rfl, HU3.out⟩
      case round =>
        clear HU3
        obtain ⟨m, n', c', np, cp, a', ap, hm, hn', hnp, rfl, rfl, rfl, HU⟩ := hrel
        clear o1 o2 o3 o4
        obtain ⟨o0, o1, o2, o3, o4⟩ := ordAt_all HU.out.box
        simp only [Nat.zero_add] at o0 o1 o2 o3 o4
        clear o0
        by_cases hltm : m < nl
        · have hmn : (m : Int) < (nl : Int) := by omega
          obtain ⟨lb, lo, rfl, hlb, hlrow⟩ := HL.out.at HNL.out (by omega)
          have hlm : m < x.lines.length := by rw [HNL.out]; exact hltm
          have hl := hlrow m hlm
          have HBT : Hid (bases k (x.lines.take (m + 1)) = bases k (x.lines.take m) ++ List.replicate x.lines[m].count.toNat (baseU k x.lines[m])) := bases_take k _ m hlm
          have HPT : Hid (prices (x.lines.take (m + 1)) = prices (x.lines.take m) ++ List.replicate x.lines[m].count.toNat x.lines[m].price) := prices_take _ m hlm
          have hcnt := (line_ok (List.all_eq_true.1 HLA.out _ (List.getElem_mem hlm))).count
          clear hlrow
          generalize x.lines[m] = l at *
          generalize bases k (x.lines.take m) = bs at *
          generalize prices (x.lines.take m) = pm at *
          have HLl : Aside (ArrAt w1 lb (lo + m * 4) l.arr) := hl
          obtain ⟨l0, l1, l2, l3⟩ := LnAt.all (hl.grown HU.out.below)
          clear hl
          obtain ⟨q, hq⟩ : ∃ q : Nat, l.count = q := ⟨l.count.toNat, by omega⟩
          have hqn : l.count.toNat = q := by omega
          rw [hqn] at HBT HPT
          rw [hq] at l3 hcnt
          clear hqn hq
          generalize wr = wo2 at *
          go_wp2
          go_loopw [3, 6, 39] (fun s3 s6 i wq => ∃ (j n2 c2 np2 cp2 : Nat) (a2 ap2 : Option Addr), j ≤ q ∧ n2 ≤ n + 50 * m + j ∧ np2 ≤ 50 * m + j ∧ i = .int .i64 j ∧ s3 = .slice a2 n2 c2 ∧ s6 = .slice ap2 np2 cp2 ∧ Aside (Uns w1 wq go (ordCells x.day (some ⟨lb, lo, none⟩) nl cl x.disc x.tax x.ship) a2 n2 c2 (us ++ (bs ++ List.replicate j (baseU k l))) ap2 np2 cp2 (pm ++ List.replicate j l.price))) (fun _ _ i _ => q - (intOf i).toNat)
          case atStart => exact ⟨0, n', c', np, cp, a', ap, Nat.zero_le _, by omega, by omega, rfl, rfl, rfl, by show Uns _ _ _ _ _ _ _ _ _ _ _ _; rw [show List.replicate 0 (baseU k l) = [] from rfl, show List.replicate 0 l.price = [] from rfl, List.append_nil, List.append_nil]; exact HU.out⟩
          case round =>
            clear HU
            obtain ⟨j, n2, c2, np2, cp2, a2, ap2, hj, hn2, hnp2, rfl, rfl, rfl, HU⟩ := hrel
            clear o1 o2 o3 o4 l0 l1 l2 l3
            obtain ⟨o0, o1, o2, o3, o4⟩ := ordAt_all HU.out.box
            obtain ⟨l0, l1, l2, l3⟩ := LnAt.all (HLl.out.grown HU.out.below)
            simp only [Nat.zero_add] at o0 o1 o2 o3 o4
            clear o0 o2 o3 o4 l3
            by_cases hjq : j < q
            · have hjn : (j : Int) < (q : Int) := by omega
              have hm0 : (0 : Int) ≤ (m : Int) := by omega
              have hgo : go < wr.heap.size := HU.out.box.lt
              have hlbw : lb < wr.heap.size := Nat.lt_of_lt_of_le hlb HU.out.below.size
              have hTgo : ¬ (Value.slice a2 n2 c2).ownBlock = some go := fun e => HU.out.nog _ e rfl
              have hTlb : ¬ (Value.slice a2 n2 c2).ownBlock = some lb := fun e => by have := (HU.out.row.lt _ e).1; omega
              have hmx : n2 + 1 ≤ maxLen := by unfold maxLen; omega
              have hby : (n2 + 1) * 32 ≤ 140737488355328 := by omega
              have hbs : w1.heap.size ≤ wr.heap.size := HU.out.below.size
              have b0 := Upd.refl (fun g => (Value.slice a2 n2 c2).ownBlock = some g) wr
              have v0 := Below.refl wr.heap.size wr
              obtain ⟨UL, hUL⟩ : ∃ UL, UL = us ++ (bs ++ List.replicate j (baseU k l)) := ⟨_, rfl⟩
              rw [← hUL] at HU
              have HUL : Hid (UL ++ [baseU k l] = us ++ (bs ++ List.replicate (j + 1) (baseU k l))) := by
                show _ = _
                rw [hUL, List.replicate_succ', List.append_assoc, List.append_assoc]
              have HPL : Hid (pm ++ List.replicate j l.price ++ [l.price] = pm ++ List.replicate (j + 1) l.price) := by
                show _ = _
                rw [List.replicate_succ', List.append_assoc]
              clear hUL
              go_upto_region 13 with (fail)
              go_cut [3] (fun s3 wx => ∃ a9 c9, s3 = .slice a9 (n2 + 1) c9 ∧ Aside (Uns w1 wx go (ordCells x.day (some ⟨lb, lo, none⟩) nl cl x.disc x.tax x.ship) a9 (n2 + 1) c9 (UL ++ [baseU k l]) ap2 np2 cp2 (pm ++ List.replicate j l.price)))
              case first =>
                as_aux_lemma =>
                  clear HRC HB HBX HC HXok HNX HNL HNU HLA hnl8 HBT HPT HUL HPL HL HLl
                  go_region_held3 (fun w' => Upd (fun g => (Value.slice a2 n2 c2).ownBlock = some g) wr w' ∧ w'.cell? ⟨go, 1, none⟩ = some (.slice (some ⟨lb, lo, none⟩) nl cl) ∧ w'.cell? ⟨lb, lo + m * 4, none⟩ = some (.int .i64 l.sku) ∧ w'.cell? ⟨lb, lo + m * 4 + 1, none⟩ = some (.int .i64 l.cat) ∧ w'.cell? ⟨lb, lo + m * 4 + 2, none⟩ = some (.int .i64 l.price))
                    (refine ⟨?_, (Upd.cell (S := (fun g => (Value.slice a2 n2 c2).ownBlock = some g)) (w := wr) (p := ⟨go, 1, none⟩) ?_ hgo hTgo).trans o1, (Upd.cell (S := (fun g => (Value.slice a2 n2 c2).ownBlock = some g)) (w := wr) (p := ⟨lb, lo + m * 4, none⟩) ?_ hlbw hTlb).trans l0, (Upd.cell (S := (fun g => (Value.slice a2 n2 c2).ownBlock = some g)) (w := wr) (p := ⟨lb, lo + m * 4 + 1, none⟩) ?_ hlbw hTlb).trans l1, (Upd.cell (S := (fun g => (Value.slice a2 n2 c2).ownBlock = some g)) (w := wr) (p := ⟨lb, lo + m * 4 + 2, none⟩) ?_ hlbw hTlb).trans l2⟩ <;> (with_reducible (repeat (first | assumption | refine Upd.drew ?_ | refine Upd.alloc ?_ _))))
                    ((refine step_append_row (by rfl) _ _ 33 (by rfl) w1.heap.size 36 _ 4 32 Try.underlying33 info_unitr rfl (by decide) (.slice a2 n2 c2) n2 (unitCells UL) (by kernel_rfl) (HU.out.row.alloc _) ⟨wr.heap.size, 0, none⟩ 1 (baseU k l).arr.toList (by kernel_rfl) rfl (unit_news wr (baseU k l) 36) (unit_one _) (n2 + 1) rfl hmx hby (Nat.le_trans hbs (by simp)) ?_; intro a9 c9 w9 r1 r2 r3; have u9 : Upd (fun g => (Value.slice a2 n2 c2).ownBlock = some g) wr w9 := ((Upd.refl (fun g => (Value.slice a2 n2 c2).ownBlock = some g) wr).alloc (.cells (baseU k l).arr 36)).drew.grown r2 (fun k hk => .inl hk)))
                  all_goals
                    go_wp2_with fail
                    go_meet
                    exact ⟨a9, c9, rfl, Uns.push HU.out (blw_alloc v0 (.cells (baseU k l).arr 36)).drew r1 r2 r3⟩
              case rest =>
                obtain ⟨a9, c9, rfl, HU9⟩ := hcut
                clear HU b0 v0 l0 l1 l2 o1 hTgo hTlb hbs
                obtain ⟨o0, o1, o2, o3, o4⟩ := ordAt_all HU9.out.box
                obtain ⟨l0, l1, l2, l3⟩ := LnAt.all (HLl.out.grown HU9.out.below)
                simp only [Nat.zero_add] at o0 o1 o2 o3 o4
                clear o0 o2 o3 o4 l0 l1 l3
                have hmx2 : np2 + 1 ≤ maxLen := by unfold maxLen; omega
                have hby2 : (np2 + 1) * 8 ≤ 140737488355328 := by omega
                have hbs : w1.heap.size ≤ wc.heap.size := HU9.out.below.size
                generalize wr = wo3 at *
                go_wp2_with (at_builtin; refine wpList_append_full rfl _ _ 58 rfl w1.heap.size 2 _ 1 8 Try.underlying58 info_i64r rfl (by decide) (.slice ap2 np2 cp2) np2 _ rfl (HU9.out.pr.alloc _) ⟨wc.heap.size, 0, none⟩ 1 1 [.int .i64 l.price] rfl rfl (one_news wc (.int .i64 l.price) 2) (fun u hu => by rw [List.mem_singleton.1 hu]; rfl) hmx2 hby2 (Nat.le_trans hbs (by simp)) ?_; intro a8 c8 w8 r1 r2 r3)
                have HU8 : Aside _ := Uns.pushPrice HU9.out (blw_alloc (Below.refl _ _) (.cells #[.int .i64 l.price] 2)) r1 r2 r3
                rw [HUL.out, HPL.out] at HU8
                clear r1 r2 r3 HU9 l2 o1
                go_roundw
                case rel => exact ⟨j + 1, _, _, _, _, _, _, by omega, by omega, by omega, by go_num, rfl, rfl, HU8.out⟩
                case measure => simp [intOf]; omega
            · obtain rfl : j = q := by omega
              rw [← HBT.out, ← HPT.out] at HU
              clear l1 l2 o1
              as_aux_lemma =>
                go_wp2
                go_roundw
                case rel => exact ⟨m + 1, _, _, _, _, _, _, by omega, by omega, by omega, by go_num, rfl, rfl, HU.out⟩
                case measure => simp [intOf]; omega
        · obtain rfl : m = nl := by omega
          rw [List.take_of_length_le (by rw [HNL.out]; exact Nat.le_refl _)] at HU
          obtain ⟨hrw, hsm, hp1, hp200⟩ := rightW_prices HXok.out HXC.out
          have hlen := HU.out.len
          obtain ⟨gp, cpp, hgp, hgb, hgl⟩ := HU.out.pr.form (by omega)
          injection hgp with e1 _ e3
          subst e1 e3
          have hpr : Aside (∀ i (h : i < (prices x.lines).length), wr.cell? ⟨gp, 0 + i, none⟩ = some (.int .i64 (prices x.lines)[i])) := fun i h => by
            rw [Nat.zero_add, World.ownsRow.cellAt HU.out.pr i (by omega)]
            simp [h]
          have hhb := HXok.out
          unfold ordB headB at hhb
          simp only [Bool.and_eq_true] at hhb
          have hSh : ∀ s : Int, priceB s = true → Aside (∀ W : World, Below wr.heap.size wr W → Calls Try.prog 24 #[.int .i64 s, .slice (some ⟨gp, 0, none⟩) np cp] W fun e w' => ∃ O c : Nat, e = .returned (.slice (some ⟨O, 0, none⟩) np c) ∧ Below wr.heap.size wr w' ∧ Below W.heap.size W w' ∧ IsInts w' (some ⟨O, 0, none⟩) (sharesOf s (prices x.lines)) ∧ wr.heap.size ≤ O) := fun s hs W hW =>
            (ref_shares gp 0 np cp s (prices x.lines) W hlen.2 hrw (okW_price hs) hsm (Nat.lt_of_lt_of_le hgl hW.size) (fun i h => (hW.cell (p := ⟨gp, 0 + i, none⟩) hgl).trans (hpr.out i h))).mono fun e w' ⟨O, d, g1, g2, g3, g4⟩ => ⟨O, d, g1, hW.trans (g2.mono hW.size), g2, g3, Nat.le_trans hW.size g4⟩
          have HS1 := hSh x.disc hhb.1.1.1.1.2
          have HS2 := hSh x.tax hhb.1.1.1.2
          have HS3 := hSh x.ship hhb.1.1.2
          have hgo : go < wr.heap.size := HU.out.box.lt
          have v0 := Below.refl wr.heap.size wr
          clear hSh hhb hpr hrw hsm o1
          have hmno : ¬ (m : Int) < (m : Int) := by omega
          go_upto_region 17 with (fail)
          go_cut [9, 10, 11] (fun s9 s10 s11 wx => ∃ O1 d1 O2 d2 O3 d3, s9 = .slice (some ⟨O1, 0, none⟩) np d1 ∧ s10 = .slice (some ⟨O2, 0, none⟩) np d2 ∧ s11 = .slice (some ⟨O3, 0, none⟩) np d3 ∧ Aside (Below wr.heap.size wr wx) ∧ Aside (IsInts wx (some ⟨O1, 0, none⟩) (sharesOf x.disc (prices x.lines))) ∧ Aside (IsInts wx (some ⟨O2, 0, none⟩) (sharesOf x.tax (prices x.lines))) ∧ Aside (IsInts wx (some ⟨O3, 0, none⟩) (sharesOf x.ship (prices x.lines))) ∧ wr.heap.size ≤ O1 ∧ wr.heap.size ≤ O2 ∧ wr.heap.size ≤ O3)
          case first =>
            as_aux_lemma =>
              clear HRC HB HBX HC HXok HXC HNX HNL HNU HLA hnl8 HL HU
              go_region_held3 (fun w' => Below wr.heap.size wr w' ∧ w'.cell? ⟨go, 2, none⟩ = some (.int .i64 x.disc) ∧ w'.cell? ⟨go, 3, none⟩ = some (.int .i64 x.tax) ∧ w'.cell? ⟨go, 4, none⟩ = some (.int .i64 x.ship))
                (refine ⟨?_, (Below.cell (p := ⟨go, 2, none⟩) (B := wr.heap.size) ?_ hgo).trans o2, (Below.cell (p := ⟨go, 3, none⟩) (B := wr.heap.size) ?_ hgo).trans o3, (Below.cell (p := ⟨go, 4, none⟩) (B := wr.heap.size) ?_ hgo).trans o4⟩ <;> (with_reducible (repeat (first | assumption | refine Below.drew ?_))))
                ((first
                  | (go_at_call 24; with_reducible refine Calls.mono (HS1.out _ ?_) ?_; (with_reducible (repeat (first | assumption | refine Below.drew ?_))); rintro e wA ⟨O1, d1, rfl, b1, t1, i1, n1⟩)
                  | (go_at_call 24; with_reducible refine Calls.mono (HS2.out _ ?_) ?_; (with_reducible (repeat (first | assumption | refine Below.drew ?_))); rintro e wB ⟨O2, d2, rfl, b2, t2, i2, n2⟩)
                  | (go_at_call 24; with_reducible refine Calls.mono (HS3.out _ ?_) ?_; (with_reducible (repeat (first | assumption | refine Below.drew ?_))); rintro e wC ⟨O3, d3, rfl, b3, t3, i3, n3⟩)))
              all_goals
                go_wp2_with fail
                go_meet
                refine ⟨O1, d1, O2, d2, O3, d3, rfl, rfl, rfl, (by assumption), ?_, ?_, ?_, n1, n2, n3⟩
                · first | exact i1 | exact i1.below t2 | exact i1.below t3 | exact (i1.below t2).below t3 | exact (i1.below t3).below t2
                · first | exact i2 | exact i2.below t1 | exact i2.below t3 | exact (i2.below t1).below t3 | exact (i2.below t3).below t1
                · first | exact i3 | exact i3.below t2 | exact i3.below t1 | exact (i3.below t2).below t1 | exact (i3.below t1).below t2
          case rest =>
            obtain ⟨O1, d1, O2, d2, O3, d3, rfl, rfl, rfl, HR9, HI1, HI2, HI3, hO1, hO2, hO3⟩ := hcut
            obtain ⟨gu, cu, hgu, hgub, hgul⟩ := HU.out.row.form (by rw [← hlen.1, List.length_append, bases_length]; omega)
            injection hgu with f1 _ f3
            subst f1 f3
            have hng : ∀ O : Nat, wr.heap.size ≤ O → O ≠ gu := fun O h e => by omega
            have HN1 : Hid (O1 ≠ gu) := hng O1 hO1
            have HN2 : Hid (O2 ≠ gu) := hng O2 hO2
            have HN3 : Hid (O3 ≠ gu) := hng O3 hO3
            have hlen2 := hlen.1
            rw [List.length_append, bases_length, hlen.2, HNU.out] at hlen2
            have HU4 : Aside (Uns w1 wc go (ordCells x.day al m cl x.disc x.tax x.ship) (some ⟨gu, 0, none⟩) n' c' (us ++ adjTo x (bases k x.lines) 0) (some ⟨gp, 0, none⟩) np cp (prices x.lines)) := by
              show Uns _ _ _ _ _ _ _ _ _ _ _ _
              rw [adjTo_zero]
              exact HU.out.later HR9.out
            obtain ⟨hrw, hsm, -, -⟩ := rightW_prices HXok.out HXC.out
            have hhb := HXok.out
            unfold ordB headB at hhb
            simp only [Bool.and_eq_true] at hhb
            have HB1 : Hid (∀ t, 0 ≤ (sharesOf x.disc (prices x.lines)).getD t 0 ∧ (sharesOf x.disc (prices x.lines)).getD t 0 ≤ 1073741825) := fun t => by
              have h1 := share_small hrw (okW_price hhb.1.1.1.1.2) hsm t
              have h2 := of_decide_eq_true hhb.1.1.1.1.2
              omega
            have HB2 : Hid (∀ t, 0 ≤ (sharesOf x.tax (prices x.lines)).getD t 0 ∧ (sharesOf x.tax (prices x.lines)).getD t 0 ≤ 1073741825) := fun t => by
              have h1 := share_small hrw (okW_price hhb.1.1.1.2) hsm t
              have h2 := of_decide_eq_true hhb.1.1.1.2
              omega
            have HB3 : Hid (∀ t, 0 ≤ (sharesOf x.ship (prices x.lines)).getD t 0 ∧ (sharesOf x.ship (prices x.lines)).getD t 0 ≤ 1073741825) := fun t => by
              have h1 := share_small hrw (okW_price hhb.1.1.2) hsm t
              have h2 := of_decide_eq_true hhb.1.1.2
              omega
            have HPA : Hid (∀ p ∈ prices x.lines, 0 ≤ p ∧ p ≤ 1073741824) := prices_all HLA.out
            clear HU HR9 hrw hsm hhb HS1 HS2 HS3 o2 o3 o4 v0 hng hO1 hO2 hO3
            have HC1 : Hid (O1 < wc.heap.size ∧ ∀ t, t < np → wc.cell? ⟨O1, t, none⟩ = some (.int .i64 ((sharesOf x.disc (prices x.lines)).getD t 0))) := ints_at HI1.out (by rw [sharesOf_length]; exact hlen.2) (by omega)
            have HC2 : Hid (O2 < wc.heap.size ∧ ∀ t, t < np → wc.cell? ⟨O2, t, none⟩ = some (.int .i64 ((sharesOf x.tax (prices x.lines)).getD t 0))) := ints_at HI2.out (by rw [sharesOf_length]; exact hlen.2) (by omega)
            have HC3 : Hid (O3 < wc.heap.size ∧ ∀ t, t < np → wc.cell? ⟨O3, t, none⟩ = some (.int .i64 ((sharesOf x.ship (prices x.lines)).getD t 0))) := ints_at HI3.out (by rw [sharesOf_length]; exact hlen.2) (by omega)
            have HLP : Hid ((prices x.lines).length = np) := hlen.2
            have hnp200 : np ≤ 200 := by omega
            clear HI1 HI2 HI3 hp1 hp200 hlen
            generalize wr = wo4 at *
            go_wp2
            go_loopw [89] (fun i wq => ∃ t : Nat, t ≤ np ∧ i = .int .i64 t ∧ Aside (Uns w1 wq go (ordCells x.day al m cl x.disc x.tax x.ship) (some ⟨gu, 0, none⟩) n' c' (us ++ adjTo x (bases k x.lines) t) (some ⟨gp, 0, none⟩) np cp (prices x.lines)) ∧ Aside (Upd (fun g => g = gu) wc wq)) (fun i _ => np - (intOf i).toNat)
            case atStart => exact ⟨0, Nat.zero_le _, rfl, HU4.out, Upd.refl _ _⟩
            case round =>
              clear HU4
              obtain ⟨t, ht, rfl, HU, HD⟩ := hrel
              by_cases htn : t < np
              · have htn' : (t : Int) < (np : Int) := by omega
                have ht0 : (0 : Int) ≤ (t : Int) := by omega
                obtain ⟨I, hI⟩ : ∃ I, I = n + t := ⟨_, rfl⟩
                have hIn : (I : Int) < (n' : Int) := by omega
                have hI0 : (0 : Int) ≤ (I : Int) := by omega
                have hIw : IntKind.i64.wrap ((n : Int) + (t : Int)) = (I : Int) := by rw [IntKind.wrap_i64]; omega
                have hIw2 : wrap64 ((n : Int) + (t : Int)) = (I : Int) := by unfold wrap64; omega
                have htp : t < (prices x.lines).length := by rw [HLP.out]; exact htn
                have htb : t < (bases k x.lines).length := by rw [bases_length]; exact htp
                have hcu : wr.cell? ⟨gu, I * 4 + 3, none⟩ = some (.int .i64 (prices x.lines)[t]) := by
                  rw [World.ownsRow.cellAt HU.out.row (I * 4 + 3) (by omega), hI, ← HNU.out, row_at htb, bases_share k x.lines t htb htp]
                have hfu : wr.frozen? ⟨gu, I * 4 + 3, none⟩ = false := World.ownsRow.frozenAt HU.out.row _
                have hc1 := (HD.out.cell (p := ⟨O1, t, none⟩) HC1.out.1 HN1.out).trans (HC1.out.2 t htn)
                have hc2 := (HD.out.cell (p := ⟨O2, t, none⟩) HC2.out.1 HN2.out).trans (HC2.out.2 t htn)
                have hc3 := (HD.out.cell (p := ⟨O3, t, none⟩) HC3.out.1 HN3.out).trans (HC3.out.2 t htn)
                have hp := HPA.out _ (List.getElem_mem htp)
                have h1 := HB1.out t
                have h2 := HB2.out t
                have h3 := HB3.out t
                have HSet : Hid ((unitCells (us ++ adjTo x (bases k x.lines) t)).set (I * 4 + 3) (.int .i64 ((prices x.lines)[t] - (sharesOf x.disc (prices x.lines)).getD t 0 + (sharesOf x.tax (prices x.lines)).getD t 0 + (sharesOf x.ship (prices x.lines)).getD t 0)) = unitCells (us ++ adjTo x (bases k x.lines) (t + 1))) := by
                  show _ = _
                  rw [← row_set htb, hI, ← HNU.out, bases_share k x.lines t htb htp]
                  congr 2
                  unfold delta
                  omega
                generalize (prices x.lines)[t] = pv at *
                generalize (sharesOf x.disc (prices x.lines)).getD t 0 = v1 at *
                generalize (sharesOf x.tax (prices x.lines)).getD t 0 = v2 at *
                generalize (sharesOf x.ship (prices x.lines)).getD t 0 = v3 at *
                have hw1 : wrap64 (pv - v1) = pv - v1 := by unfold wrap64; omega
                have hw2 : wrap64 (pv - v1 + v2) = pv - v1 + v2 := by unfold wrap64; omega
                have hw3 : wrap64 (pv - v1 + v2 + v3) = pv - v1 + v2 + v3 := by unfold wrap64; omega
                have hHI := Lib.hid hI
                clear hI
                go_upto_region 21 with (fail)
                as_aux_lemma =>
                  clear HRC HB HBX HC HXok HXC HNX HNL HNU HLA hnl8 HL HB1 HB2 HB3 HPA HC1 HC2 HC3 HLP hHI hp h1 h2 h3 htp htb HN1 HN2 HN3
                  go_still_tail 28, (by kernel_rfl)
                  change wpList _ _ _ _ _ wr.drew
                  have HU5 : Aside _ := HU.out.drew.store (I * 4 + 3) _ HSet.out
                  have HD5 : Aside _ := HD.out.drew.setCell (p := ⟨gu, I * 4 + 3, none⟩) (.inl rfl) (.int .i64 (pv - v1 + v2 + v3))
                  clear HU HD
                  go_wp2
                  go_roundw
                  case rel => exact ⟨t + 1, by omega, by go_num, HU5.out, HD5.out⟩
                  case measure => simp [intOf]; omega
              · obtain rfl : t = np := by omega
                have HRW : Aside (wr.ownsRow w1.heap.size 36 4 (.slice (some ⟨gu, 0, none⟩) n' c') n' (unitCells (ordsU C.orders (k + 1)))) := by
                  have h := HU.out.row
                  rw [HNX.out]
                  unfold ordU
                  rw [show (bases k x.lines).length = t by rw [bases_length]; exact HLP.out]
                  exact h
                have HBW : Aside (Below w1.heap.size w1 wr) := HU.out.below
                have hn400' : n' ≤ 400 * (k + 1) := by omega
                clear HU HNX HC1 HC2 HC3 HB1 HB2 HB3 HLA HPA HLP HXok HXC hnl8
                as_aux_lemma =>
                  go_wp2
                  go_roundw
                  case rel => exact ⟨k + 1, n', c', some ⟨gu, 0, none⟩, by omega, hn400', by go_num, rfl, HRW.out, HBW.out⟩
                  case measure => simp [intOf]; omega
    · obtain rfl : k = no := by omega
      clear c0
      obtain ⟨c0, c1, c2⟩ := cfgAt_all HBXr.out
      simp only [Nat.zero_add] at c0 c1 c2
      clear c0 c2
      have hns20 : ns ≤ 20 := by
        have h := HRC.out
        unfold rightC at h
        simp only [Bool.and_eq_true, decide_eq_true_eq] at h
        have := HC.out.sl
        omega
      have HSA : Aside (SupsAt w1 aS C.sups) := HC.out.sa
      have HNS : Hid (C.sups.length = ns) := HC.out.sl
      have HSB : Hid (C.sups.all supB = true) := by
        show _ = _
        have h := HRC.out
        unfold rightC at h
        simp only [Bool.and_eq_true] at h
        exact h.1.1.2
      obtain ⟨US, hUS⟩ : ∃ US, US = ordsU C.orders k := ⟨_, rfl⟩
      rw [← hUS] at HO
      have HRU : Hid (US ++ supsU C.sups = unitsC C) := by
        show _ = _
        rw [hUS]
        unfold unitsC
        rw [HC.out.ol]
      clear hUS HCr HC HRC HBXr
      generalize wr = wo1 at *
      go_wp2
      go_loopw [3, 125] (fun s3 i wq => ∃ (m n' c' : Nat) (a' : Option Addr), m ≤ ns ∧ n' ≤ n + 50 * m ∧ i = .int .i64 m ∧ s3 = .slice a' n' c' ∧ Aside (wq.ownsRow w1.heap.size 36 4 (.slice a' n' c') n' (unitCells (US ++ supsU (C.sups.take m)))) ∧ Aside (Below w1.heap.size w1 wq)) (fun _ i _ => ns - (intOf i).toNat)
      case atStart => exact ⟨0, n, c, a, Nat.zero_le _, by omega, rfl, rfl, by show World.ownsRow _ _ _ _ _ _ _; rw [show supsU (C.sups.take 0) = [] from rfl, List.append_nil]; exact HO.out, HW.out⟩
      case round =>
        clear HO HW
        obtain ⟨m, n', c', a', hm, hn', rfl, rfl, HO, HW⟩ := hrel
        clear c1
        obtain ⟨c0, c1, c2⟩ := cfgAt_all (HBX.out.grown HW.out)
        simp only [Nat.zero_add] at c0 c1 c2
        clear c0 c2
        by_cases hltm : m < ns
        · have hmn : (m : Int) < (ns : Int) := by omega
          obtain ⟨sb, so, rfl, hsb, hsrow⟩ := HSA.out.at HNS.out (by omega)
          have hlm : m < C.sups.length := by rw [HNS.out]; exact hltm
          have hs := hsrow m hlm
          have hST : supsU (C.sups.take (m + 1)) = supsU (C.sups.take m) ++ supU C.sups[m] := supsU_take _ m hlm
          have hcnt := (sup_ok (List.all_eq_true.1 HSB.out _ (List.getElem_mem hlm))).count
          clear hsrow
          generalize C.sups[m] = s at *
          obtain ⟨sn, hsn⟩ : ∃ sn, sn = supsU (C.sups.take (m + 1)) := ⟨_, rfl⟩
          rw [← hsn] at hST
          generalize supsU (C.sups.take m) = sm at *
          have HSs : Aside (ArrAt w1 sb (so + m * 3) s.arr) := hs
          obtain ⟨s0, s1, s2⟩ := SupAt.all (hs.grown HW.out)
          clear hs
          obtain ⟨q, hq⟩ : ∃ q : Nat, s.count = q := ⟨s.count.toNat, by omega⟩
          have hqn : s.count.toNat = q := by omega
          unfold supU at hST
          rw [hqn] at hST
          have HST : Hid (sn = sm ++ List.replicate q (supOne s)) := hST
          have HSN := Lib.hid hsn
          rw [hq] at s2 hcnt
          clear hqn hq hST hsn
          generalize wr = wo2 at *
          go_wp2
          go_loopw [3, 134] (fun s3 i wq => ∃ (j n2 c2 : Nat) (a2 : Option Addr), j ≤ q ∧ n2 ≤ n + 50 * m + j ∧ i = .int .i64 j ∧ s3 = .slice a2 n2 c2 ∧ Aside (wq.ownsRow w1.heap.size 36 4 (.slice a2 n2 c2) n2 (unitCells (US ++ (sm ++ List.replicate j (supOne s))))) ∧ Aside (Below w1.heap.size w1 wq)) (fun _ i _ => q - (intOf i).toNat)
          case atStart => exact ⟨0, n', c', a', Nat.zero_le _, by omega, rfl, rfl, by show World.ownsRow _ _ _ _ _ _ _; rw [show List.replicate 0 (supOne s) = [] from rfl, List.append_nil]; exact HO.out, HW.out⟩
          case round =>
            clear HO HW
            obtain ⟨j, n2, c2, a2, hj, hn2, rfl, rfl, HO, HW⟩ := hrel
            clear c1 s0 s1 s2
            obtain ⟨c0, c1, c2'⟩ := cfgAt_all (HBX.out.grown HW.out)
            obtain ⟨s0, s1, s2⟩ := SupAt.all (HSs.out.grown HW.out)
            simp only [Nat.zero_add] at c0 c1 c2'
            clear c0 c2' s2
            by_cases hjq : j < q
            · have hjn : (j : Int) < (q : Int) := by omega
              have hm0 : (0 : Int) ≤ (m : Int) := by omega
              have hgo : w.heap.size < wr.heap.size := Nat.lt_of_lt_of_le HBX.out.lt HW.out.size
              have hsbw : sb < wr.heap.size := Nat.lt_of_lt_of_le hsb HW.out.size
              have hbx : w.heap.size < w1.heap.size := HBX.out.lt
              have hTgo : ¬ (Value.slice a2 n2 c2).ownBlock = some w.heap.size := fun e => by have := (HO.out.lt _ e).1; omega
              have hTsb : ¬ (Value.slice a2 n2 c2).ownBlock = some sb := fun e => by have := (HO.out.lt _ e).1; omega
              have hmx : n2 + 1 ≤ maxLen := by unfold maxLen; omega
              have hby : (n2 + 1) * 32 ≤ 140737488355328 := by omega
              have hbs : w1.heap.size ≤ wr.heap.size := HW.out.size
              have b0 := Upd.refl (fun g => (Value.slice a2 n2 c2).ownBlock = some g) wr
              have HUL : Hid (US ++ (sm ++ List.replicate j (supOne s)) ++ [supOne s] = US ++ (sm ++ List.replicate (j + 1) (supOne s))) := by
                show _ = _
                rw [List.replicate_succ', List.append_assoc, List.append_assoc]
              go_upto_region 29 with (fail)
              as_aux_lemma =>
                clear HSA HNS HSB HRU HST HSN HSs hsb hbx
                go_region_held3 (fun w' => Upd (fun g => (Value.slice a2 n2 c2).ownBlock = some g) wr w' ∧ w'.cell? ⟨w.heap.size, 1, none⟩ = some (.slice (some ⟨sb, so, none⟩) ns cs) ∧ w'.cell? ⟨sb, so + m * 3, none⟩ = some (.int .i64 s.sku) ∧ w'.cell? ⟨sb, so + m * 3 + 1, none⟩ = some (.int .i64 s.price))
                  (refine ⟨?_, (Upd.cell (S := (fun g => (Value.slice a2 n2 c2).ownBlock = some g)) (w := wr) (p := ⟨w.heap.size, 1, none⟩) ?_ hgo hTgo).trans c1, (Upd.cell (S := (fun g => (Value.slice a2 n2 c2).ownBlock = some g)) (w := wr) (p := ⟨sb, so + m * 3, none⟩) ?_ hsbw hTsb).trans s0, (Upd.cell (S := (fun g => (Value.slice a2 n2 c2).ownBlock = some g)) (w := wr) (p := ⟨sb, so + m * 3 + 1, none⟩) ?_ hsbw hTsb).trans s1⟩ <;> (with_reducible (repeat (first | assumption | refine Upd.drew ?_ | refine Upd.alloc ?_ _))))
                  ((refine step_append_row (by rfl) _ _ 33 (by rfl) w1.heap.size 36 _ 4 32 Try.underlying33 info_unitr rfl (by decide) (.slice a2 n2 c2) n2 (unitCells (US ++ (sm ++ List.replicate j (supOne s)))) (by kernel_rfl) (HO.out.alloc _) ⟨wr.heap.size, 0, none⟩ 1 (supOne s).arr.toList (by kernel_rfl) rfl (unit_news wr (supOne s) 36) (unit_one _) (n2 + 1) rfl hmx hby (Nat.le_trans hbs (by simp)) ?_; intro a9 c9 w9 r1 r2 r3; have u9 : Upd (fun g => (Value.slice a2 n2 c2).ownBlock = some g) wr w9 := ((Upd.refl (fun g => (Value.slice a2 n2 c2).ownBlock = some g) wr).alloc (.cells (supOne s).arr 36)).drew.grown r2 (fun k hk => .inl hk)))
                all_goals
                  have HO9 : Aside (w9.ownsRow w1.heap.size 36 4 (.slice a9 (n2 + 1) c9) (n2 + 1) (unitCells (US ++ (sm ++ List.replicate (j + 1) (supOne s))))) := by
                    show World.ownsRow _ _ _ _ _ _ _
                    rw [← HUL.out, unitCells_snoc]
                    exact r1
                  have HW9 : Aside (Below w1.heap.size w1 w9) := HW.out.trans (upd_below u9 HW.out.size (fun g e => (HO.out.lt g e).1))
                  clear r1 r2 r3 u9 b0 HO HW
                  go_wp2_with fail
                  go_roundw
                  case rel => exact ⟨j + 1, n2 + 1, c9, a9, by omega, by omega, by go_num, rfl, HO9.out, HW9.out⟩
                  case measure => simp [intOf]; omega
            · obtain rfl : j = q := by omega
              rw [← HST.out] at HO
              rw [HSN.out] at HO
              clear c1 s0 s1
              as_aux_lemma =>
                go_wp2
                go_roundw
                case rel => exact ⟨m + 1, n2, c2, a2, by omega, by omega, by go_num, rfl, HO.out, HW.out⟩
                case measure => simp [intOf]; omega
        · obtain rfl : m = ns := by omega
          rw [List.take_of_length_le (by rw [HNS.out]; exact Nat.le_refl _), HRU.out] at HO
          have HO2 : Aside _ := row_mono HO.out HB.out.size
          have HB2 : Aside _ := HB.out.trans (HW.out.mono HB.out.size)
          clear c1 HO HW HSA HSB HRU
          as_aux_lemma =>
            go_wp2
            go_ret
            exact ⟨⟨a', n', c', rfl, HO2.out⟩, HB2.out⟩
end Go.Proofs.Ytbiompjhenkieaa
