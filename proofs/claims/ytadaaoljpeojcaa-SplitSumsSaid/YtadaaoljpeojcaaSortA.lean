/-
  The library's stable sort, its small parts: rows exchanged, a rotation, an insertion. Conditions: those of each theorem.
-/
import Derived.Test.YtadaaoljpeojcaaStab
import Derived.Test.YtadaaoljpeojcaaLaw
import Derived.Sort.WalkC
import Derived.RegionTactic
import Derived.BigRegion
import Derived.Lib.Hide
import Derived.Deep.LoopGhost
namespace Go.Proofs.Ytadaaoljpeojcaa
open Go.RowKit Go.Sort
set_option maxRecDepth 100000
variable {α : Type} [Inhabited α]

/-- The row holds d, so many draws on. -/
structure St (v : α → Int) (w0 : World) (blk off : Nat) (d0 d : Array α) (W : World) : Prop where
  row : Holds (fun x => Value.int .i64 (v x)) w0 blk off d0
  size : d.size = d0.size
  draws : ∃ n, W = (putRow (fun x => Value.int .i64 (v x)) w0 blk off d).drewN n

theorem St.cell {v : α → Int} {w0 : World} {blk off : Nat} {d0 d : Array α} {W : World} (h : St v w0 blk off d0 d W) (t : Nat) (ht : t < d.size) : W.cell? ⟨blk, off + t, none⟩ = some (.int .i64 (v d[t]!)) := by
  obtain ⟨h0, hs, n, rfl⟩ := h
  exact cell?_putRow (fun x => Value.int .i64 (v x)) w0 blk off d0 d h0 hs t ht
theorem St.soft {v : α → Int} {w0 : World} {blk off : Nat} {d0 d : Array α} {W : World} (h : St v w0 blk off d0 d W) (t : Nat) (ht : t < d.size) : W.frozen? ⟨blk, off + t, none⟩ = false := by
  obtain ⟨h0, hs, n, rfl⟩ := h
  show (putRow (fun x => Value.int .i64 (v x)) w0 blk off d).frozen? _ = _
  rw [frozen?_putRow]
  exact (h0 t (by omega)).2
theorem St.drewN {v : α → Int} {w0 : World} {blk off : Nat} {d0 d : Array α} {W : World} (h : St v w0 blk off d0 d W) (q : Nat) : St v w0 blk off d0 d (W.drewN q) := by
  obtain ⟨h0, hs, n, rfl⟩ := h
  exact ⟨h0, hs, n + q, by rw [World.drewN_drewN]⟩
theorem St.swapped {v : α → Int} {w0 : World} {blk off : Nat} {d0 d : Array α} {W : World} (h : St v w0 blk off d0 d W) (i j : Nat) (hi : i < d.size) (hj : j < d.size) :
    St v w0 blk off d0 (swp d i j) ((W.setCell ⟨blk, off + i, none⟩ (.int .i64 (v d[j]!))).setCell ⟨blk, off + j, none⟩ (.int .i64 (v d[i]!))).drew := by
  obtain ⟨h0, hs, n, rfl⟩ := h
  exact ⟨h0, by rw [size_swp]; exact hs, n + 1, swap_worldC (fun x => Value.int .i64 (v x)) w0 blk off d n i j hi hj⟩

def SwapRange (v : α → Int) (w0 : World) (blk off a b n : Nat) (d0 d : Array α) (w' : World) : Prop := ∃ d', Swapped a b n d d' ∧ St v w0 blk off d0 d' w'

set_option maxHeartbeats 1000000 in
theorem sort_swapRange (v : α → Int) (fn : Value) (w0 w : World) (blk off cap a b n sz : Nat) (d0 d : Array α) (S : St v w0 blk off d0 d w) (hz : d.size = sz) (hab : a + n ≤ b) (hb : b + n ≤ sz) (hsz : sz < 4611686018427387904) :
    Calls Try.prog 39 #[.slice (some ⟨blk, off, none⟩) sz cap, .int .i64 a, .int .i64 b, .int .i64 n, fn] w fun e w' => e = .returned (.tuple #[]) ∧ SwapRange v w0 blk off a b n d0 d w' := by
  have S0 : Aside (St v w0 blk off d0 d w) := S
  have HZ := Lib.hid hz
  clear S hz
  go_enter Try.func39, Try.ntmps39
  go_wp2
  go_loopw [10] (fun vi wr => ∃ (i : Nat) (dk : Array α), vi = .int .i64 i ∧ i ≤ n ∧ Hid (dk.size = sz) ∧ Aside (Swapped a b i d dk) ∧ Aside (St v w0 blk off d0 dk wr)) (fun vi _ => n - (intOf vi).toNat)
  case atStart => exact ⟨0, d, rfl, Nat.zero_le _, HZ.out, Swapped.zero a b d, S0.out⟩
  case round =>
    clear S0
    obtain ⟨i, dk, rfl, hi, HK, SW, SK⟩ := hrel
    by_cases hlt : i < n
    · have hk := HK.out
      obtain ⟨G, hG⟩ : ∃ G : Nat → Int, ∀ t, G t = v dk[t]! := ⟨fun t => v dk[t]!, fun _ => rfl⟩
      have hcw : ∀ t, t < sz → wr.cell? ⟨blk, off + t, none⟩ = some (.int .i64 (G t)) := fun t ht => by rw [hG]; exact SK.out.cell t (by omega)
      have hfw : ∀ t, t < sz → wr.frozen? ⟨blk, off + t, none⟩ = false := fun t ht => SK.out.soft t (by omega)
      have HG := Lib.hid hG
      clear hk hG
      go_wp2
      go_region
      go_wp2
      go_roundw
      case rel =>
        refine ⟨i + 1, swp dk (a + i) (b + i), by go_num, hlt, ?_, ?_, ?_⟩
        · show _ = _
          rw [size_swp]; exact HK.out
        · exact SW.out.more (by omega) (by have := HZ.out; omega)
        · have := SK.out.swapped (a + i) (b + i) (by have := HK.out; omega) (by have := HK.out; omega)
          rw [← HG.out, ← HG.out] at this
          exact this
      case measure => simp [intOf]; omega
    · obtain rfl : i = n := by omega
      go_wp2
      go_end0
      exact ⟨rfl, dk, SW.out, SK.out⟩
end Go.Proofs.Ytadaaoljpeojcaa
