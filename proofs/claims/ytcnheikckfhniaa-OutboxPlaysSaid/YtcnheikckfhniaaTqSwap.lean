/-
  Package timer: the queue's Swap. Conditions: those of each theorem.
-/
import Derived.Test.YtcnheikckfhniaaTq
namespace Go.Proofs.Ytcnheikckfhniaa
open Go.RowKit
set_option maxRecDepth 100000

/-- A cell that is there is there behind a store. -/
theorem there_set {w : World} {b o o' : Nat} {u : Value} (h : ∃ v, w.cell? ⟨b, o', none⟩ = some v) : ∃ v, (w.setCell ⟨b, o, none⟩ u).cell? ⟨b, o', none⟩ = some v := by
  obtain ⟨v, h⟩ := h
  by_cases e : o' = o
  · subst e; exact ⟨u, cell_same h⟩
  · exact ⟨v, (cell_other e).trans h⟩
set_option maxHeartbeats 4000000 in
theorem q_swap {w : World} {p o g m c : Nat} {xs : List Tm} (h : TimAt w p o g m c xs) {i j : Nat} (hi : i < xs.length) (hj : j < xs.length) : Calls Try.prog 90 #[.pointer (some ⟨p, o, none⟩), .int .i64 i, .int .i64 j] w fun e w' => e = .returned (.tuple #[]) ∧ TimAt w' p o g m c (tswp xs i j) ∧ Upd (fun k => k = g ∨ k = m) w w' := by
  have h0 := h.c0
  have h1 := h.c1
  have hn := h.few
  have hfg : ∀ k, w.frozen? ⟨g, k, none⟩ = false := fun k => h.row.frozenAt k
  obtain ⟨x0, x1⟩ := h.cells hi
  obtain ⟨y0, y1⟩ := h.cells hj
  have HR : Aside _ := (h.toTimRow.put hi (tget xs j) (h.num hj)).put (i := j) (by simpa using hj) (tget xs i) (h.num hi)
  have HT : Aside _ := h
  obtain ⟨v1, z1⟩ := there_set (o := i * 2) (u := .int .i64 (tget xs j).1) ⟨_, x1⟩
  obtain ⟨v2, z2⟩ := there_set (o := i * 2 + 1) (u := .int .i64 (tget xs j).2) (there_set (o := i * 2) (u := .int .i64 (tget xs j).1) ⟨_, y0⟩)
  obtain ⟨v3, z3⟩ := there_set (o := j * 2) (u := .int .i64 (tget xs i).1) (there_set (o := i * 2 + 1) (u := .int .i64 (tget xs j).2) (there_set (o := i * 2) (u := .int .i64 (tget xs j).1) ⟨_, y1⟩))
  obtain ⟨ix, hm, hix⟩ := h.mp
  obtain ⟨gm, pm⟩ := h.gm
  have HIX : Aside _ := hix.swap hi hj
  have he : i = j → tget xs i = tget xs j := fun e => by rw [e]
  have hn1 := h.num hi
  have hn2 := h.num hj
  have ixi := hix.at' i hi
  have ixj := hix.at' j hj
  have hyl : (xs.set i (tget xs j)).set j (tget xs i) = tswp xs i j := rfl
  have HYN : Aside (∀ k, k < xs.length → tget (tswp xs i j) k = if k = j then tget xs i else if k = i then tget xs j else tget xs k) := fun k _ => tget_swp hi hj k
  rw [hyl] at HR
  have HL : Hid ((tswp xs i j).length = xs.length) := tswp_length xs i j
  clear h hix hyl
  have i1 : (i : Int) < (xs.length : Int) := by omega
  have j1 : (j : Int) < (xs.length : Int) := by omega
  generalize tswp xs i j = ys at *
  have E1 : (tget xs i) = ((tget xs i).1, (tget xs i).2) := rfl
  have E2 : (tget xs j) = ((tget xs j).1, (tget xs j).2) := rfl
  generalize hxi : tget xs i = x at *
  generalize hxj : tget xs j = y at *
  clear E1 E2 hxi hxj
  obtain ⟨d1, n1⟩ := x
  obtain ⟨d2, n2⟩ := y
  dsimp only at *
  have HU : Aside (Upd (fun k => k = g) w ((((w.setCell ⟨g, i * 2, none⟩ (.int .i64 d2)).setCell ⟨g, i * 2 + 1, none⟩ (.int .i64 n2)).setCell ⟨g, j * 2, none⟩ (.int .i64 d1)).setCell ⟨g, j * 2 + 1, none⟩ (.int .i64 n1))) :=
    (((upd_set _ _).trans (upd_set _ _) (fun _ _ x => x)).trans (upd_set _ _) (fun _ _ x => x)).trans (upd_set _ _) (fun _ _ x => x)
  have HM : Aside (MapIs w m xs.length ix) := hm
  clear hm
  go_enter Try.func90, Try.ntmps90
  go_wp2
  go_upto_region 0 with (fail)
  go_region
  clear z1 z2 z3 x0 x1 y0 y1 h0 h1 hfg
  generalize (((w.setCell ⟨g, i * 2, none⟩ (.int .i64 d2)).setCell ⟨g, i * 2 + 1, none⟩ (.int .i64 n2)).setCell ⟨g, j * 2, none⟩ (.int .i64 d1)).setCell ⟨g, j * 2 + 1, none⟩ (.int .i64 n1) = w1 at *
  have r1 : TimRow w1.drew p o g m c ys := ⟨HR.out.lt, HR.out.c0, HR.out.c1, HR.out.fz, HR.out.row.drew, HR.out.pg, HR.out.w64, HR.out.few⟩
  have u1 : Upd (fun k => k = g) w w1.drew := HU.out.drew
  clear HR HU
  generalize w1.drew = w2 at *
  have hm2 : MapIs w2.drew m xs.length ix := HM.out.upd (S := fun k => k = g) u1.drew (Ne.symm gm)
  obtain ⟨vA, sA, eA, stA⟩ := hm2.entry hn2 ixj
  obtain ⟨w3, rA, m3, t3, _⟩ := hm2.estore (i := i) (by unfold maxLen; omega) hn2 (w64_nat (by omega)) stA
  have hB : ixPut ix n2 i n1 = some i := by
    unfold ixPut
    by_cases e : n1 = n2
    · rw [if_pos e]
    · rw [if_neg e]; exact ixi
  obtain ⟨vB, sB, eB, stB⟩ := m3.entry hn1 hB
  obtain ⟨w4, rB, m4, t4, _⟩ := m3.estore (i := j) (by unfold maxLen; omega) hn1 (w64_nat (by omega)) stB
  change _ = Result.ok (Value.tuple #[vA, .int .i64 (sA : Int)]) _ at eA
  change _ = Result.ok (Value.tuple #[vB, .int .i64 (sB : Int)]) _ at eB
  change Sem.run _ (Instr.entryStore _ _ (Value.int .i64 (sA : Int)) _) _ = _ at rA
  change Sem.run _ (Instr.entryStore _ _ (Value.int .i64 (sB : Int)) _) _ = _ at rB
  have hlen := HL.out
  have ci := (r1.cells (i := i) (by omega)).2
  have cj := (r1.cells (i := j) (by omega)).2
  have e1 := HYN.out i hi
  have e2 := HYN.out j hj
  rw [if_pos rfl] at e2
  have ci2 : w2.cell? ⟨g, i * 2 + 1, none⟩ = some (.int .i64 n2) := by
    rw [ci, e1]
    by_cases e : i = j
    · rw [if_pos e, he e]
    · rw [if_neg e, if_pos rfl]
  rw [e2] at cj
  have h0 := r1.c0
  have h1 := r1.c1
  rw [hlen] at h0
  have HF : Aside (TimAt w4 p o g m c ys ∧ Upd (fun k => k = g ∨ k = m) w w4) := by
    have u4 : Upd (fun k => k = m) w2 w4 := ((Upd.refl _ _).drew.trans (turned_upd t3) (fun _ _ x => x)).trans (turned_upd t4) (fun _ _ x => x)
    refine ⟨⟨r1.upd u4 pm gm, _, ?_, HIX.out⟩, (u1.mono (fun _ _ x => .inl x)).trans u4 (fun _ _ x => .inr x)⟩
    rw [hlen]
    exact m4
  clear he HM HIX HYN HL r1 u1 hm2 stA stB m3 m4 t3 t4 e1 e2 ci HT hB
  go_wp2
  go_region
  all_goals
    go_end0
    exact ⟨rfl, HF.out⟩
end Go.Proofs.Ytcnheikckfhniaa
