/-
  The laws of layer 11, what they share: the arguments, awake. Conditions: those of the theorems.
-/
import Derived.Test.YtakdodcdgmbhaaaStkNew
import Derived.Test.YtakdodcdgmbhaaaStkMove
namespace Go.Proofs.Ytakdodcdgmbhaaa
open Go.RowKit
set_option maxRecDepth 100000

/-- An Act of the script. -/
structure Sct where
  k : Int
  A : Int
  B : Int
def Sct.arr (x : Sct) : Array Value := #[.int .u8 x.k, .int .i64 x.A, .int .i64 x.B]
def ActRow (w : World) (a : Option Addr) (n : Nat) (f : Nat → Sct) : Prop := 0 < n → ∃ b o, a = some ⟨b, o, none⟩ ∧ b < w.heap.size ∧ ∀ k, k < n → ArrAt w b (o + k * 3) (f k).arr
theorem ActRow.below {w w' : World} {a : Option Addr} {n : Nat} {f : Nat → Sct} (h : ActRow w a n f) (hb : Below w.heap.size w w') : ActRow w' a n f := fun hn => by
  obtain ⟨b, o, h1, h2, h3⟩ := h hn
  exact ⟨b, o, h1, Nat.lt_of_lt_of_le h2 hb.size, fun k hk => (h3 k hk).grown hb⟩
theorem cells_sct : Try.prog.cellsOf 33 = 3 := by kernel_rfl
theorem cells_sct8 : Try.prog.cellsOf 5 = 1 := by kernel_rfl
theorem cells_sct64 : Try.prog.cellsOf 3 = 1 := by kernel_rfl
theorem rd_sct {w : World} {cs : List Value} (h : Rd Try.prog w 33 cs) : ∃ x : Sct, cs = x.arr.toList := by
  have hl := (h.struct Try.underlying33).1
  obtain ⟨f, h1, w1⟩ := (h.field Try.underlying33 0 rfl (u := 5) (o := 0) (n := 1) (by kernel_rfl) (by kernel_rfl) cells_sct8).int Try.underlying5
  obtain ⟨t, h2, w2⟩ := (h.field Try.underlying33 1 rfl (u := 3) (o := 1) (n := 1) (by kernel_rfl) (by kernel_rfl) cells_sct64).int Try.underlying3
  obtain ⟨s, h3, w3⟩ := (h.field Try.underlying33 2 rfl (u := 3) (o := 2) (n := 1) (by kernel_rfl) (by kernel_rfl) cells_sct64).int Try.underlying3
  rw [cells_sct] at hl
  match cs, hl with
  | [x, y, z], _ =>
    simp only [List.drop_zero, List.drop_succ_cons, List.take_succ_cons, List.take_zero] at h1 h2 h3
    injection h1 with h1 _
    injection h2 with h2 _
    injection h3 with h3 _
    exact ⟨⟨f, t, s⟩, by rw [h1, h2, h3]; rfl⟩
theorem acts_of {w : World} {a : Option Addr} {n c : Nat} (h : Rd Try.prog w 23 [.slice a n c]) : ∃ f : Nat → Sct, ActRow w a n f := by
  obtain ⟨a', n', c', e, hn, hc, hr, _⟩ := h.slice_at Try.underlying23 cells_sct (by decide)
  injection e with e _
  injection e with e1 e2 e3
  subst e1 e2 e3
  rcases hr with h0 | ⟨b, off, rfl, hb, hrow⟩
  · exact ⟨fun _ => ⟨0, 0, 0⟩, fun h => by omega⟩
  · have key : ∀ i, i < n → ∃ x : Sct, ArrAt w b (off + i * 3) x.arr := by
      intro i hi
      obtain ⟨cs, hl, hat, hrd⟩ := hrow i (by omega)
      obtain ⟨x, rfl⟩ := rd_sct hrd
      refine ⟨x, hb, fun j v hj => ?_⟩
      have h3 : j < 3 := (Array.getElem?_eq_some_iff.1 hj).1
      rw [hat j h3, Array.getElem?_toList]
      exact hj
    refine ⟨fun i => if h : i < n then Classical.choose (key i h) else ⟨0, 0, 0⟩, fun _ => ⟨b, off, rfl, hb, fun i hi => ?_⟩⟩
    simp only [dif_pos hi]
    exact Classical.choose_spec (key i hi)
/-- What is read of an Act. -/
theorem act_all {w : World} {b o : Nat} {x : Sct} (h : ArrAt w b o x.arr) : w.cell? ⟨b, o, none⟩ = some (.int .u8 x.k) ∧ w.cell? ⟨b, o + 1, none⟩ = some (.int .i64 x.A) ∧ w.cell? ⟨b, o + 2, none⟩ = some (.int .i64 x.B) :=
  ⟨h.cells 0 _ rfl, h.cells 1 _ rfl, h.cells 2 _ rfl⟩

set_option maxHeartbeats 2000000 in
theorem stk_awake (w : World) : Calls Try.prog 7 #[] w fun e w' => e = .returned (.bool true) ∧ Below w.heap.size w w' := by
  obtain ⟨w2, hw2⟩ : ∃ w2, w2 = (w.alloc (.cells #[.int .i64 5] 3)).alloc (.cells #[.int .i64 0] 3) := ⟨_, rfl⟩
  have e1 : (w.alloc (.cells #[.int .i64 5] 3)).heap.size = w.heap.size + 1 := by simp
  have HB : Aside (Below w.heap.size w w2) := by rw [hw2]; exact below_two w _ _
  have r1 : IntRow w2 (some ⟨w.heap.size, 0, none⟩) 1 (fun _ => 5) := fun _ => ⟨w.heap.size, 0, rfl, by rw [hw2]; simp; omega, fun k hk => by
    obtain rfl : k = 0 := by omega
    have := ((arr_new w #[Value.int .i64 5] 3).grown (upd_box (.cells #[.int .i64 0] 3))).cells 0 _ rfl
    rw [hw2]; exact this⟩
  have r2 : IntRow w2 (some ⟨w.heap.size + 1, 0, none⟩) 1 (fun _ => 0) := fun _ => ⟨w.heap.size + 1, 0, rfl, by rw [hw2]; simp, fun k hk => by
    obtain rfl : k = 0 := by omega
    have := (arr_new (w.alloc (.cells #[.int .i64 5] 3)) #[Value.int .i64 0] 3).cells 0 _ rfl
    rw [e1] at this
    rw [hw2]; exact this⟩
  have HN : Aside _ := stk_new (some ⟨w.heap.size, 0, none⟩) (some ⟨w.heap.size + 1, 0, none⟩) 1 1 1 (fun _ => 5) (fun _ => 0) w2 (by decide) r1 r2 (by decide)
  clear r1 r2
  go_enter Try.func7, Try.ntmps7
  go_wp2_with fail
  rw [← hw2]
  refine Calls.mono HN.out ?_
  rintro e w3 ⟨p, G, rfl, s3, b3, -, g3⟩
  have HB3 : Aside (Below w.heap.size w w3) := HB.out.trans (b3.mono HB.out.size)
  have HM : Aside (Calls Try.prog 11 #[.pointer (some ⟨p, 0, none⟩), .int .i64 0, .int .i64 1] w3 fun e w' => e = .returned (.int .i64 0) ∧ StockAt w' p G 1 (fun k => if k = 0 then ⟨5, 1, false, false⟩ else ⟨5, 0, false, false⟩) ∧ Upd (fun b => b = G) w3 w') := by
    refine (stk_move s3 (k := 0) (by decide) 1).mono ?_
    rintro e w' ⟨rfl, hs, hu⟩
    refine ⟨rfl, ?_, hu⟩
    have e9 : moveU (newU (fun _ => 5) (fun _ => 0)) 0 1 = fun k => if k = 0 then ⟨5, 1, false, false⟩ else ⟨5, 0, false, false⟩ := by
      unfold moveU
      rw [if_pos (show mayB (newU (fun _ => 5) (fun _ => 0) 0).place 1 = true from rfl)]
      funext k
      by_cases h : k = 0
      · subst h; rfl
      · simp [putAt, newU, h]
    rw [e9] at hs
    exact hs
  have HG : Hid (w.heap.size ≤ G) := Nat.le_trans HB.out.size g3
  clear HN b3 hw2 s3
  go_wp2_with fail
  refine Calls.mono HM.out ?_
  rintro e w4 ⟨rfl, s4, u4⟩
  have HB4 : Aside (Below w.heap.size w w4) := (Upd.trans (S := fun k => w.heap.size ≤ k) (Upd.below HB3.out) u4 (fun j _ e => by rw [e]; exact HG.out)).toBelow (Nat.le_refl _) (fun j hj x => by omega)
  have HP : Aside _ := stk_place s4 (k := 0) (by decide)
  clear HM s4 u4 HB3
  go_wp2_with fail
  refine Calls.mono HP.out ?_
  rintro e w5 ⟨rfl, rfl⟩
  go_wp2_with fail
  refine Calls.mono (stk_may 0 1 _) ?_
  rintro e w5 ⟨rfl, rfl⟩
  go_wp2
  go_ret
  exact ⟨rfl, HB4.out⟩
end Go.Proofs.Ytakdodcdgmbhaaa
