/-
  The disk of package disk: what its memory holds, and the contracts of its small methods. Conditions: those of each theorem ('DiskAt': the pointer leads to a disk that holds D).
-/
import Derived.Test.YteipcbpkgpffjaaDoorHeap
import Derived.WalkSpells
import Derived.WalkLawsBesides
import Derived.Deep.QuietTactic
import Derived.BigQuiet
import Derived.Deep.RegionHeld3
namespace Go.Proofs.YteipcbpkgpffjaaDoor
open Go.RowKit
set_option maxRecDepth 100000

/-- A file: whether it is there, its bytes, how many are safe. -/
structure FM where
  has : Bool
  b : List UInt8
  safe : Nat
/-- A disk. -/
structure DM where
  cap : Nat
  f : Nat → FM
  lit : Bool
  fuse : Nat
  lost : Bool
def DM.set (D : DM) (i : Nat) (x : FM) : DM := { D with f := fun j => if j = i then x else D.f j }
def DM.used (D : DM) : Nat → Nat
  | 0 => 0
  | n + 1 => D.used n + (D.f n).b.length
structure DM.ok (D : DM) : Prop where
  cap : D.cap ≤ 1048576
  used : D.used 8 ≤ D.cap
  safe : ∀ i, i < 8 → (D.f i).safe ≤ (D.f i).b.length
  none : ∀ i, i < 8 → (D.f i).has = false → (D.f i).b = [] ∧ (D.f i).safe = 0
  fuse : D.fuse ≤ 9223372036854775807

/-- What memory holds of a disk at block p; S: the blocks that are its own; V: its files' slices. -/
structure DiskAt (w : World) (p : Nat) (S : Nat → Prop) (V : Nat → Value) (D : DM) : Prop where
  ok : D.ok
  own : S p
  lt : ∀ k, S k → k < w.heap.size
  blk : ∃ cur, w.heap[p]? = some (.cells cur 61 (0, 0)) ∧ cur.size = 28
  c0 : w.cell? ⟨p, 0, none⟩ = some (.int .i64 (D.cap : Int))
  has : ∀ i, i < 8 → w.cell? ⟨p, 1 + i * 3, none⟩ = some (.bool (D.f i).has)
  val : ∀ i, i < 8 → w.cell? ⟨p, 1 + i * 3 + 1, none⟩ = some (V i)
  safe : ∀ i, i < 8 → w.cell? ⟨p, 1 + i * 3 + 2, none⟩ = some (.int .i64 ((D.f i).safe : Int))
  c25 : w.cell? ⟨p, 25, none⟩ = some (.bool D.lit)
  c26 : w.cell? ⟨p, 26, none⟩ = some (.int .i64 (D.fuse : Int))
  c27 : w.cell? ⟨p, 27, none⟩ = some (.bool D.lost)
  row : ∀ i, i < 8 → w.ownsRow 0 5 1 (V i) (D.f i).b.length ((D.f i).b.map bval)
  mine : ∀ i, i < 8 → ∀ g, (V i).ownBlock = some g → S g ∧ g ≠ p
  apart : ∀ i j, i < 8 → j < 8 → i ≠ j → ∀ g, (V i).ownBlock = some g → (V j).ownBlock ≠ some g

theorem DiskAt.frozen {w : World} {p : Nat} {S : Nat → Prop} {V : Nat → Value} {D : DM} (h : DiskAt w p S V D) (o : Nat) : w.frozen? ⟨p, o, none⟩ = false := by
  obtain ⟨cur, h1, _⟩ := h.blk
  simp [World.frozen?, h1]

theorem DiskAt.upd {w w' : World} {p : Nat} {S T : Nat → Prop} {V : Nat → Value} {D : DM} (h : DiskAt w p S V D) (hu : Upd T w w') (hd : ∀ k, S k → ¬ T k) : DiskAt w' p S V D := by
  have hp := h.lt p h.own
  have hn := hd p h.own
  have e := fun o => hu.cell (p := ⟨p, o, none⟩) hp hn
  refine ⟨h.ok, h.own, fun k hk => Nat.lt_of_lt_of_le (h.lt k hk) hu.size, ?_, ?_, ?_, ?_, ?_, ?_, ?_, ?_, ?_, h.mine, h.apart⟩
  · rw [hu.block p hp hn]; exact h.blk
  · rw [e]; exact h.c0
  · intro i hi; rw [e]; exact h.has i hi
  · intro i hi; rw [e]; exact h.val i hi
  · intro i hi; rw [e]; exact h.safe i hi
  · rw [e]; exact h.c25
  · rw [e]; exact h.c26
  · rw [e]; exact h.c27
  · intro i hi; exact ownsRow_upd (h.row i hi) hu (fun g hg => hd g (h.mine i hi g hg).1)

/-- The values of a file's slice. -/
theorem DiskAt.slice {w : World} {p : Nat} {S : Nat → Prop} {V : Nat → Value} {D : DM} (h : DiskAt w p S V D) (i : Nat) (hi : i < 8) :
    ∃ a cap, V i = .slice a (D.f i).b.length cap := by
  rcases (h.row i hi).2 with ⟨h1, h2⟩ | ⟨g, cap, cur, hv, _⟩
  · exact ⟨none, 0, by rw [h1, h2]⟩
  · exact ⟨_, _, hv⟩

/-- The files' numbers that 'ready' is asked for. -/
def IsInts (w : World) (a : Option Addr) (xs : List Int) : Prop :=
  xs = [] ∨ ∃ b off, a = some ⟨b, off, none⟩ ∧ ∀ i (h : i < xs.length), w.cell? ⟨b, off + i, none⟩ = some (.int .i64 xs[i])
def inRange (i : Int) : Bool := decide (0 ≤ i) && decide (i < 8)
def rdy (xs : List Int) : Int := if xs.all inRange then 0 else 1

set_option maxHeartbeats 400000 in
theorem ready_lost (p : Nat) (v : Value) (w : World) (hl : w.cell? ⟨p, 27, none⟩ = some (.bool true)) :
    Calls Tryd.prog 33 #[.pointer (some ⟨p, 0, none⟩), v] w fun e w' => e = .returned (.int .i64 6) ∧ w = w' := by
  go_enter Tryd.func33, Tryd.ntmps33
  go_wp2
  go_ret
  exact ⟨rfl, rfl⟩

set_option maxHeartbeats 800000 in
theorem ready_lit (p : Nat) (a : Option Addr) (cap : Nat) (xs : List Int) (w : World) (hl : w.cell? ⟨p, 27, none⟩ = some (.bool false)) (hi : IsInts w a xs) (hx : xs.length ≤ 8) :
    Calls Tryd.prog 33 #[.pointer (some ⟨p, 0, none⟩), .slice a xs.length cap] w fun e w' => e = .returned (.int .i64 (rdy xs)) ∧ w = w' := by
  go_enter Tryd.func33, Tryd.ntmps33
  go_wp2
  go_loop [6, 15] (fun _ i => ∃ k : Nat, k ≤ xs.length ∧ i = .int .i64 k ∧ (xs.take k).all inRange = true) (fun _ i => xs.length - (intOf i).toNat)
  case atStart => exact ⟨0, Nat.zero_le _, rfl, rfl⟩
  case round =>
    obtain ⟨k, hk, rfl, hpre⟩ := hrel
    have HP := Lib.hid hpre
    clear hpre
    by_cases hlt : k < xs.length
    · rcases hi with rfl | ⟨b, off, rfl, hc⟩
      · simp at hlt
      have hck := hc k hlt
      clear hc
      have htk : (xs.take (k + 1)).all inRange = ((xs.take k).all inRange && inRange xs[k]) := by
        rw [List.take_succ_eq_append_getElem hlt, List.all_append]; simp
      have hdr : xs.all inRange = ((xs.take (k + 1)).all inRange && (xs.drop (k + 1)).all inRange) := by
        rw [← List.all_append, List.take_append_drop]
      have HT := Lib.hid htk
      have HD := Lib.hid hdr
      clear htk hdr
      generalize hz : xs[k] = z at *
      by_cases h0 : 0 ≤ z
      · by_cases h8 : z < 8
        · have hr : inRange z = true := by simp [inRange, h0, h8]
          have HR := Lib.hid hr
          clear hr hz
          go_wp2
          go_round
          case rel => exact ⟨k + 1, by omega, by go_num, by rw [HT.out, HP.out, HR.out]; rfl⟩
          case measure => simp [intOf]; omega
        · have hr : inRange z = false := by simp [inRange, h8]
          have HR := Lib.hid hr
          clear hr hz
          go_wp2
          go_ret
          exact ⟨by unfold rdy; rw [HD.out, HT.out, HR.out]; simp, rfl⟩
      · have hr : inRange z = false := by simp [inRange, h0]
        have HR := Lib.hid hr
        clear hr hz
        go_wp2
        go_ret
        exact ⟨by unfold rdy; rw [HD.out, HT.out, HR.out]; simp, rfl⟩
    · go_wp2
      go_ret
      have : xs.take k = xs := List.take_of_length_le (by omega)
      exact ⟨by unfold rdy; rw [← this, HP.out]; rfl, rfl⟩

set_option maxHeartbeats 400000 in
theorem spend_unlit (p : Nat) (w : World) (h : w.cell? ⟨p, 25, none⟩ = some (.bool false)) :
    Calls Tryd.prog 48 #[.pointer (some ⟨p, 0, none⟩)] w fun e w' => e = .returned (.int .i64 0) ∧ w = w' := by
  go_enter Tryd.func48, Tryd.ntmps48
  go_wp2
  go_ret
  exact ⟨rfl, rfl⟩
set_option maxHeartbeats 400000 in
theorem spend_out (p : Nat) (v : Value) (w : World) (h : w.cell? ⟨p, 25, none⟩ = some (.bool true)) (h26 : w.cell? ⟨p, 26, none⟩ = some (.int .i64 0)) (h27 : w.cell? ⟨p, 27, none⟩ = some v) (hf : w.frozen? ⟨p, 27, none⟩ = false) :
    Calls Tryd.prog 48 #[.pointer (some ⟨p, 0, none⟩)] w fun e w' => e = .returned (.int .i64 6) ∧ w.setCell ⟨p, 27, none⟩ (.bool true) = w' := by
  go_enter Tryd.func48, Tryd.ntmps48
  go_wp2
  go_ret
  exact ⟨rfl, rfl⟩
set_option maxHeartbeats 400000 in
theorem spend_one (p : Nat) (n : Int) (w : World) (hn : 0 < n) (hn' : n ≤ 9223372036854775807) (h : w.cell? ⟨p, 25, none⟩ = some (.bool true)) (h26 : w.cell? ⟨p, 26, none⟩ = some (.int .i64 n)) (hf : w.frozen? ⟨p, 26, none⟩ = false) :
    Calls Tryd.prog 48 #[.pointer (some ⟨p, 0, none⟩)] w fun e w' => e = .returned (.int .i64 0) ∧ w.setCell ⟨p, 26, none⟩ (.int .i64 (n - 1)) = w' := by
  have hb : (n == 0) = false := by simp; omega
  go_enter Tryd.func48, Tryd.ntmps48
  go_wp2
  go_ret
  exact ⟨rfl, rfl⟩
end Go.Proofs.YteipcbpkgpffjaaDoor
