/-
  Package stock: Clone, and the library's Clone under it. Conditions: those of each theorem.
-/
import Derived.Test.YtakdodcdgmbhaaaStkNew
namespace Go.Proofs.Ytakdodcdgmbhaaa
open Go.RowKit
set_option maxRecDepth 100000

set_option maxHeartbeats 1000000 in
theorem clone_items (a : Option Addr) (n c : Nat) (news : List Value) (w : World) (hl : news.length = n * 4) (ha : a = none → n = 0) (hrow : ∀ ad, a = some ad → ∀ j v, news[j]? = some v → w.cell? (ad.add j) = some v) (hone : ∀ v ∈ news, v.oneCell' = true) (hn : n ≤ 1000) :
    Calls Try.prog 27 #[.slice a n c] w (Cloned 52 4 n news w) := by
  have hnil := fun (w : World) (a : Option Addr) (n c n' c' : Nat) => Lib.run_eql_slice_nil (P := Try.prog) w 50 52 a n c n' c' Try.underlying50
  cases a with
  | none =>
    obtain rfl := ha rfl
    obtain rfl : news = [] := List.length_eq_zero_iff.1 (by omega)
    clear ha hrow hone hl
    go_enter Try.func27, Try.ntmps27
    go_wp2
    go_ret
    exact ⟨⟨none, 0, rfl, World.ownsRow_nil _ _ _ _⟩, Below.refl _ _⟩
  | some ad =>
    have hown : (w.alloc (.cells #[] 52)).ownsRow w.heap.size 52 4 (.slice (some ⟨w.heap.size, 0, none⟩) 0 0) 0 [] :=
      World.ownsRow_made w #[] 0 (Nat.le_refl _) (Nat.zero_le _) rfl
    have hb1 : Below w.heap.size w (w.alloc (.cells #[] 52)) := (Below.refl _ _).alloc (Nat.le_refl _) _
    have hrow1 : Aside (∀ j v, news[j]? = some v → (w.alloc (.cells #[] 52)).cell? (ad.add j) = some v) := fun j v hj => by
      have h1 := hrow ad rfl j v hj
      exact (hb1.cell (p := ad.add j) (World.block_lt_of_cell? _ _ h1)).trans h1
    have hbase : w.heap.size ≤ (w.alloc (.cells #[] 52)).heap.size := by simp
    clear hrow ha
    go_enter Try.func27, Try.ntmps27
    go_wp2_with (at_builtin; refine wpList_append_full rfl _ _ 50 rfl w.heap.size 52 _ 4 24 Try.underlying50 info_item rfl (by decide) (.slice (some ⟨w.heap.size, 0, none⟩) 0 0) 0 [] rfl hown ad n c news rfl hl hrow1.out hone (by unfold maxLen; omega) (by omega) hbase ?_; intro a' c' w' h1 h2 h3)
    go_ret
    rw [Nat.zero_add] at h1
    refine ⟨⟨a', c', by simp, by simpa using h1⟩, ?_⟩
    exact hb1.grown h2 (by simp) (fun k hk => by simp [Value.ownBlock] at hk; omega)

/-- The cells of n units. -/
def itmRows (u : Nat → Itm) (n : Nat) : List (Array Value) := (List.range n).map fun k => (u k).arr
theorem itmRows_size (u : Nat → Itm) (n : Nat) : ∀ c ∈ itmRows u n, c.size = 4 := by
  intro c hc
  unfold itmRows at hc
  obtain ⟨k, _, rfl⟩ := List.mem_map.1 hc
  rfl
theorem row4_own {w : World} {base n g c : Nat} {t : TypeId} {u : Nat → Itm} (h : w.ownsRow base t 4 (.slice (some ⟨g, 0, none⟩) n c) n (flatCells (itmRows u n))) (hg : g < w.heap.size) : Row4 w g n (fun k => (u k).arr) := by
  have hr := arr_of_own (itmRows_size u n) (by simp [itmRows]) h hg
  refine ⟨hg, fun k hk => ?_, fun j => World.ownsRow.frozenAt h j⟩
  have := hr k (by simpa [itmRows] using hk)
  simpa [itmRows] using this

theorem stk_clone_nil (w : World) : Calls Try.prog 19 #[.pointer none] w fun e w' => e = .returned (.pointer none) ∧ w' = w := by
  go_enter Try.func19, Try.ntmps19
  go_wp2
  go_ret
  exact ⟨rfl, rfl⟩

theorem stk_clone {w : World} {p G n : Nat} {u : Nat → Itm} (h : StockAt w p G n u) : Calls Try.prog 19 #[.pointer (some ⟨p, 0, none⟩)] w fun e w' => ∃ p' G', e = .returned (.pointer (some ⟨p', 0, none⟩)) ∧ StockAt w' p' G' n u ∧ Below w.heap.size w w' ∧ w.heap.size ≤ p' ∧ w.heap.size ≤ G' := by
  obtain ⟨a, c, hx, ha, hnil⟩ := h.box
  have hn := h.few
  have HC : Aside _ := clone_items a n c (flatCells (itmRows u n)) w (by rw [flat_length (itmRows_size u n)]; simp [itmRows]) hnil (fun ad e => by
      by_cases h0 : 0 < n
      · rw [ha h0] at e
        injection e with e
        subst e
        exact flat_row (itmRows_size u n) (fun i hi => by
          have := (h.row h0).row i (by simpa [itmRows] using hi)
          simpa [itmRows] using this)
      · obtain rfl : n = 0 := by omega
        intro j v hj
        simp [itmRows, flatCells] at hj)
    (flat_one (fun c hc => by
      unfold itmRows at hc
      obtain ⟨k, _, rfl⟩ := List.mem_map.1 hc
      exact itm_one (u k))) (by omega)
  clear h ha hnil
  go_enter Try.func19, Try.ntmps19
  go_wp2_with fail
  refine Calls.mono HC.out ?_
  rintro e w1 ⟨⟨a', c', rfl, ho⟩, b1⟩
  have HB : Aside (Below w.heap.size w (w1.alloc (.cells #[.slice a' n c'] 54))) := b1.alloc b1.size _
  have HN : Aside (Below w1.heap.size w1 (w1.alloc (.cells #[.slice a' n c'] 54))) := upd_box _
  have hsz := b1.size
  have HS : Aside (∃ G', StockAt (w1.alloc (.cells #[.slice a' n c'] 54)) w1.heap.size G' n u ∧ w.heap.size ≤ G') := by
    rcases ho.2 with ⟨hv, x⟩ | ⟨g, cap, cur, hv, hgb, hgc, hle, hcm, -, -⟩
    · injection hv with e1 e2 e3
      have h0 : n = 0 := by omega
      exact ⟨w.heap.size, ⟨by simp, ⟨a', c', by simp, fun h => by omega, fun _ => h0⟩, fun h => by omega, hn, fun h => by omega⟩, Nat.le_refl _⟩
    · injection hv with e1 e2 e3
      subst e1 e3
      have hgl : g < w1.heap.size := (Array.getElem?_eq_some_iff.1 hgc).1
      exact ⟨g, ⟨by simp, ⟨_, c', by simp, fun _ => rfl, fun e => by cases e⟩, fun _ => (row4_own ho hgl).below HN.out, hn, fun _ e => by omega⟩, hgb⟩
  clear ho b1 HN HC
  go_wp2
  go_ret
  obtain ⟨G', h1, h2⟩ := HS.out
  exact ⟨_, G', rfl, h1, HB.out, hsz, h2⟩
end Go.Proofs.Ytakdodcdgmbhaaa
