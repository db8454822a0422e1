/-
  A log in memory (package log): what its block holds, and what a change elsewhere leaves of it. Conditions: those of each theorem ('LogAt': the pointer leads to a log that holds L, on the disk at block p).
-/
import Derived.Test.YteipcbpkgpffjaaDoorLogPlain
import Derived.Test.YteipcbpkgpffjaaDoorBeside
import Derived.Test.YteipcbpkgpffjaaDoorDiskH
import Derived.Test.YteipcbpkgpffjaaDoorLists
namespace Go.Proofs.YteipcbpkgpffjaaDoor
open Go.RowKit
set_option maxRecDepth 100000

/-- A log. -/
structure LM where
  file : Nat
  gen : Nat
  image : List UInt8
  recs : List (List UInt8)
  over : Bool

/-- What memory holds of a log at block q, of a disk at block p; T: the blocks that are its own. -/
structure LogAt (w : World) (q p : Nat) (T : Nat → Prop) (L : LM) : Prop where
  own : T q
  lt : ∀ k, T k → k < w.heap.size
  blk : ∃ cur, w.heap[q]? = some (.cells cur 65 (0, 0)) ∧ cur.size = 6
  c0 : w.cell? ⟨q, 0, none⟩ = some (.pointer (some ⟨p, 0, none⟩))
  c1 : w.cell? ⟨q, 1, none⟩ = some (.int .i64 (L.file : Int))
  c2 : w.cell? ⟨q, 2, none⟩ = some (.int .i64 (L.gen : Int))
  c5 : w.cell? ⟨q, 5, none⟩ = some (.bool L.over)
  mem : ∃ a c v E, w.cell? ⟨q, 3, none⟩ = some (.slice a L.image.length c) ∧ IsBytes w a L.image ∧ L.image.length ≤ c ∧ c ≤ maxLen ∧ (a = none → c = 0) ∧ (∀ x, a = some x → T x.block ∧ x.block ≠ q ∧ v.ownBlock ≠ some x.block) ∧
    w.cell? ⟨q, 4, none⟩ = some v ∧ RowsOf w 0 v E L.recs ∧ (∀ g, v.ownBlock = some g → T g ∧ g ≠ q ∧ ¬ E g) ∧ ∀ g, E g → T g ∧ g ≠ q
  f2 : L.file ≤ 2
  g32 : L.gen < 4294967296
  i60 : L.image.length ≤ 60000
  r60 : ∀ x ∈ L.recs, x.length ≤ 60000

theorem LogAt.frozen {w : World} {q p : Nat} {T : Nat → Prop} {L : LM} (h : LogAt w q p T L) (o : Nat) : w.frozen? ⟨q, o, none⟩ = false := by
  obtain ⟨cur, h1, _⟩ := h.blk
  simp [World.frozen?, h1]

theorem LogAt.upd {w w' : World} {q p : Nat} {T U : Nat → Prop} {L : LM} (h : LogAt w q p T L) (hu : Upd U w w') (hd : ∀ k, T k → ¬ U k) : LogAt w' q p T L := by
  have hp := h.lt q h.own
  have hn := hd q h.own
  have e := fun o => hu.cell (p := ⟨q, o, none⟩) hp hn
  obtain ⟨a, c, v, E, m1, m2, m3, m4, m5, m6, m7, m8, m9, m10⟩ := h.mem
  refine ⟨h.own, fun k hk => Nat.lt_of_lt_of_le (h.lt k hk) hu.size, ?_, by rw [e]; exact h.c0, by rw [e]; exact h.c1, by rw [e]; exact h.c2, by rw [e]; exact h.c5,
    ⟨a, c, v, E, by rw [e]; exact m1, m2.upd hu (fun _ x hx => hd _ (m6 x hx).1), m3, m4, m5, m6, by rw [e]; exact m7, m8.upd hu (fun g hg => hd g (m9 g hg).1) (fun g hg => hd g (m10 g hg).1), m9, m10⟩, h.f2, h.g32, h.i60, h.r60⟩
  rw [hu.block q hp hn]; exact h.blk
theorem LogAt.below {w w' : World} {q p : Nat} {T : Nat → Prop} {L : LM} (h : LogAt w q p T L) (hb : Below w.heap.size w w') : LogAt w' q p T L :=
  h.upd (U := fun _ => False) (Upd.below hb) (fun _ _ x => x)

/-- A cell of the log's own block is stored over: what lies elsewhere of it stays. -/
theorem LogAt.mem_set {w : World} {q p : Nat} {T : Nat → Prop} {L : LM} (h : LogAt w q p T L) (o : Nat) (u : Value) (h3 : o ≠ 3) (h4 : o ≠ 4) :
    ∃ a c v E, (w.setCell ⟨q, o, none⟩ u).cell? ⟨q, 3, none⟩ = some (.slice a L.image.length c) ∧ IsBytes (w.setCell ⟨q, o, none⟩ u) a L.image ∧ L.image.length ≤ c ∧ c ≤ maxLen ∧ (a = none → c = 0) ∧ (∀ x, a = some x → T x.block ∧ x.block ≠ q ∧ v.ownBlock ≠ some x.block) ∧
      (w.setCell ⟨q, o, none⟩ u).cell? ⟨q, 4, none⟩ = some v ∧ RowsOf (w.setCell ⟨q, o, none⟩ u) 0 v E L.recs ∧ (∀ g, v.ownBlock = some g → T g ∧ g ≠ q ∧ ¬ E g) ∧ ∀ g, E g → T g ∧ g ≠ q := by
  obtain ⟨a, c, v, E, m1, m2, m3, m4, m5, m6, m7, m8, m9, m10⟩ := h.mem
  have hu := upd_set (w := w) (p := q) o u
  exact ⟨a, c, v, E, by rw [cell_other (Ne.symm h3)]; exact m1, m2.upd hu (fun _ x hx e => (m6 x hx).2.1 e), m3, m4, m5, m6, by rw [cell_other (Ne.symm h4)]; exact m7, m8.upd hu (fun g hg e => (m9 g hg).2.1 e) (fun g hg e => (m10 g hg).2 e), m9, m10⟩
theorem LogAt.blk_set {w : World} {q p : Nat} {T : Nat → Prop} {L : LM} (h : LogAt w q p T L) (o : Nat) (u : Value) :
    ∃ cur, (w.setCell ⟨q, o, none⟩ u).heap[q]? = some (.cells cur 65 (0, 0)) ∧ cur.size = 6 := by
  obtain ⟨cur, h1, h2⟩ := h.blk
  exact ⟨_, setCell_heap_at h1, by simp [h2]⟩
theorem LogAt.ended {w : World} {q p : Nat} {T : Nat → Prop} {L : LM} (h : LogAt w q p T L) (b : Bool) : LogAt (w.setCell ⟨q, 5, none⟩ (.bool b)) q p T { L with over := b } :=
  ⟨h.own, fun k hk => by rw [setCell_size]; exact h.lt k hk, h.blk_set 5 _, by rw [cell_other (by omega)]; exact h.c0, by rw [cell_other (by omega)]; exact h.c1, by rw [cell_other (by omega)]; exact h.c2, cell_same h.c5,
    h.mem_set 5 _ (by omega) (by omega), h.f2, h.g32, h.i60, h.r60⟩
theorem LogAt.records {w : World} {q p : Nat} {T : Nat → Prop} {L : LM} (h : LogAt w q p T L) : ∃ a c, w.cell? ⟨q, 4, none⟩ = some (.slice a L.recs.length c) := by
  obtain ⟨a, c, v, E, _, _, _, _, _, _, m7, m8, _⟩ := h.mem
  obtain ⟨a', c', rfl⟩ := m8.slice
  exact ⟨a', c', m7⟩

set_option maxHeartbeats 400000 in
theorem log_usable (q : Nat) (b : Bool) (w : World) (h : w.cell? ⟨q, 5, none⟩ = some (.bool b)) :
    Calls Tryd.prog 40 #[.pointer (some ⟨q, 0, none⟩)] w fun e w' => e = .returned (.int .i64 (if b then 6 else 0)) ∧ w = w' := by
  cases b
  · go_enter Tryd.func40, Tryd.ntmps40
    go_wp2
    go_ret
    exact ⟨rfl, rfl⟩
  · go_enter Tryd.func40, Tryd.ntmps40
    go_wp2
    go_ret
    exact ⟨rfl, rfl⟩

set_option maxHeartbeats 400000 in
theorem log_ended (q : Nat) (e : Int) (v : Value) (w : World) (h : w.cell? ⟨q, 5, none⟩ = some v) (hf : w.frozen? ⟨q, 5, none⟩ = false) :
    Calls Tryd.prog 43 #[.pointer (some ⟨q, 0, none⟩), .int .i64 e] w fun x w' => x = .returned (.int .i64 e) ∧ w.setCell ⟨q, 5, none⟩ (.bool (e == 6)) = w' := by
  go_enter Tryd.func43, Tryd.ntmps43
  go_wp2
  go_ret
  exact ⟨rfl, rfl⟩

set_option maxHeartbeats 400000 in
theorem log_len {w : World} {q p : Nat} {T : Nat → Prop} {L : LM} (h : LogAt w q p T L) :
    Calls Tryd.prog 28 #[.pointer (some ⟨q, 0, none⟩)] w fun e w' => e = .returned (.int .i64 (L.recs.length : Int)) ∧ w = w' := by
  obtain ⟨a, c, hv⟩ := h.records
  go_enter Tryd.func28, Tryd.ntmps28
  go_wp2
  go_ret
  exact ⟨rfl, rfl⟩
set_option maxHeartbeats 400000 in
theorem log_generation {w : World} {q p : Nat} {T : Nat → Prop} {L : LM} (h : LogAt w q p T L) :
    Calls Tryd.prog 25 #[.pointer (some ⟨q, 0, none⟩)] w fun e w' => e = .returned (.int .i64 (L.gen : Int)) ∧ w = w' := by
  have h2 := h.c2
  go_enter Tryd.func25, Tryd.ntmps25
  go_wp2
  go_ret
  exact ⟨rfl, rfl⟩
set_option maxHeartbeats 400000 in
theorem log_over {w : World} {q p : Nat} {T : Nat → Prop} {L : LM} (h : LogAt w q p T L) :
    Calls Tryd.prog 15 #[.pointer (some ⟨q, 0, none⟩)] w fun e w' => e = .returned (.bool L.over) ∧ w = w' := by
  have h5 := h.c5
  go_enter Tryd.func15, Tryd.ntmps15
  go_wp2
  go_ret
  exact ⟨rfl, rfl⟩

set_option maxHeartbeats 800000 in
theorem log_image {w : World} {q p : Nat} {T : Nat → Prop} {L : LM} (h : LogAt w q p T L) :
    Calls Tryd.prog 37 #[.pointer (some ⟨q, 0, none⟩)] w fun e w' => (∃ a c, e = .returned (.slice a L.image.length c) ∧ w'.ownsRow w.heap.size 5 1 (.slice a L.image.length c) L.image.length (L.image.map bval)) ∧ Below w.heap.size w w' := by
  obtain ⟨a, c, v, E, m1, m2, m3, m4, m5, _⟩ := h.mem
  have hi := h.i60
  go_enter Tryd.func37, Tryd.ntmps37
  go_wp2_with fail
  refine (clone_bytes a L.image _ c w rfl m2 m5 (by omega)).mono ?_
  rintro e w1 ⟨⟨a', c', rfl, hr⟩, b1⟩
  go_wp2
  go_ret
  exact ⟨⟨a', c', rfl, hr⟩, b1⟩
end Go.Proofs.YteipcbpkgpffjaaDoor
