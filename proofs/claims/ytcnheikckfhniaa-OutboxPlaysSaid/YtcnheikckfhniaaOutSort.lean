/-
  slices.Sort of ints; slices.Sorted of the keys of the messages' map. Conditions: those of each theorem.
-/
import Derived.Test.YtcnheikckfhniaaOm
import Derived.Test.YtcnheikckfhniaaRowX
import Derived.Test.YtcnheikckfhniaaOutLay
namespace Go.Proofs.Ytcnheikckfhniaa
open Go.RowKit Go.Maps Go.Sort Go.Shelf
set_option maxRecDepth 100000

def mget (xs : List Msg) (i : Nat) : Msg := xs.getD i msg0
theorem mget_eq {xs : List Msg} {i : Nat} (h : i < xs.length) : mget xs i = xs[i] := by
  unfold mget
  rw [List.getD_eq_getElem?_getD, List.getElem?_eq_getElem h]
  rfl
theorem mget_mem {xs : List Msg} {m : Msg} : m ∈ xs ↔ ∃ i, i < xs.length ∧ mget xs i = m := by
  constructor
  · intro h
    obtain ⟨i, hi, e⟩ := List.getElem_of_mem h
    exact ⟨i, hi, (mget_eq hi).trans e⟩
  · rintro ⟨i, hi, e⟩
    rw [← e, mget_eq hi]
    exact List.getElem_mem _
/-- By rising keys. -/
def Rise (xs : List Msg) : Prop := xs.Pairwise (fun x y => x.key < y.key)
theorem Rise.nd {xs : List Msg} (h : Rise xs) : NDK xs := List.Pairwise.imp (fun h e => by omega) h

/-- Ints, sorted. -/
theorem int_sort {w : World} {b o n c : Nat} {f : Nat → Int} (ks : List Int) (hn : n ≤ 10000) (hk : ks.length = n) (hb : b < w.heap.size) (hc : ∀ k, k < n → w.cell? ⟨b, o + k, none⟩ = some (.int .i64 (f k))) (hf : ∀ k, k < n → w.frozen? ⟨b, o + k, none⟩ = false)
    (hs : ks.Pairwise (fun x y => x ≤ y)) (hp : ks.Perm ((List.range n).map f)) :
    Calls Try.prog 26 #[.slice (some ⟨b, o, none⟩) n c] w fun e w' => e = .returned (.tuple #[]) ∧ (∀ k, k < n → w'.cell? ⟨b, o + k, none⟩ = some (.int .i64 (ks.getD k 0))) ∧ Upd (fun k => k = b) w w' := by
  have hl : ((List.range n).map f).length = n := by simp
  have hH : Holds (Value.int .i64) w b o ((List.range n).map f).toArray := fun j hj => by
    have hj' : j < n := by simpa using hj
    refine ⟨(hc j hj').trans ?_, hf j hj'⟩
    rw [getElem!_pos _ j hj]
    simp
  have hcon := AnyM.slices_Sort_int so b o c ((List.range n).map f) w hH hb (by rw [hl]; omega)
  rw [hl] at hcon
  change Calls Try.prog 26 _ _ _ at hcon
  have hm : (((List.range n).map f).mergeSort fun x y => decide (x ≤ y)) = ks := by
    have h1 := mergeSort_of_perm_i hp
    have h2 : ks.mergeSort leI = ks := List.mergeSort_of_pairwise (hs.imp (fun h => by simpa [leI] using h))
    exact h1.symm.trans h2
  rw [hm] at hcon
  refine hcon.mono fun e w' ⟨he, m, os, hw⟩ => ⟨he, ?_, ?_⟩
  · intro k hk'
    have hsz : (Sort.ahead w m).heap.size = w.heap.size := rfl
    have hb2 : b < (putRow (Value.int .i64) (Sort.ahead w m) b o ks.toArray).heap.size := by
      simp [putRow, mapBlock]
      exact hb
    have hH2 : Holds (Value.int .i64) (Sort.ahead w m) b o ((List.range n).map f).toArray := hH
    rw [hw, cell?_grow _ _ _ hb2, cell?_putRow _ _ _ _ _ ks.toArray hH2 (by simp [hk]) k (by simp [hk]; exact hk')]
    congr 2
    rw [getElem!_pos _ k (by simp [hk]; exact hk')]
    simp
    rw [List.getElem?_eq_getElem (by omega)]
    rfl
  · rw [hw]
    refine ⟨rfl, rfl, rfl, ?_, fun k hk hne => ?_⟩
    · simp [putRow, mapBlock]
    · rw [heap_grow_old _ _ (by simpa [putRow, mapBlock] using hk)]
      simp only [putRow, mapBlock]
      rw [Array.getElem?_modify, if_neg (fun e => hne e.symm)]
      rfl
theorem int_sort_none (p : Option Addr) (c : Nat) (w : World) : Calls Try.prog 26 #[.slice p 0 c] w fun e w' => e = .returned (.tuple #[]) ∧ w' = w :=
  AnyM.slices_Sort_int_none so p c w

/-- What a map that is read has for keys are ints. -/
theorem own_keys {H : Type} {w : World} {R : Value → Option (DataW H × List MemPlace)} {b n : Nat} {D : DataW H} (h : w.ownsMap Try.prog 3 R b n D) : ∃ es, D = .map es ∧ es.Pairwise (fun p q => p.1 ≠ q.1) ∧ ∀ p ∈ es, ∃ x, p.1 = .int .i64 x ∧ W64 x := by
  obtain ⟨es, h1, h2, _⟩ := h.entries mkeyed
  refine ⟨es, h1, h2, fun p hp => ?_⟩
  obtain ⟨es0, clock, _, F, _, hD⟩ := h
  rw [h1] at hD
  injection hD with hD
  rw [hD] at hp
  obtain ⟨v, hv⟩ := fit_keys F p (mem_sorted.1 hp)
  obtain ⟨x, _, h3, h4⟩ := keyOf_int_inv Try.underlying3 hv
  exact ⟨x, h3, h4⟩
theorem msg_keys {w : World} {b n : Nat} {xs ws : List Msg} {D : DataW Msg} (h1 : w.ownsMap Try.prog 3 rMsg b n D) (h3 : ∀ a, W64 a → Maps.has D (ik a) = (look xs a).isSome ∧ ∀ m, look xs a = some m → D.atKey (ik a) (.held msg0) = .held m) (hx : ∀ m ∈ xs, W64 m.key) (hs : Rise ws) (hp : ws.Perm xs) {ss : List Int} (hss : ss.Perm (intKeys D)) : ss.mergeSort leI = ws.map (·.key) := by
  obtain ⟨es, rfl, hes, hk⟩ := own_keys h1
  have hnd : (ws.map (·.key)).Nodup := List.pairwise_map.2 (hs.imp (fun h e => by omega))
  have hm : ∀ x, x ∈ ws.map (·.key) ↔ Maps.has (.map es) (.int .i64 x) = true := fun x => by
    constructor
    · intro h
      obtain ⟨m, hm, rfl⟩ := List.mem_map.1 h
      have hm' := hp.mem_iff.1 hm
      have := (h3 _ (hx m hm')).1
      rw [look_mem (hs.nd.perm hp) hm'] at this
      exact this
    · intro h
      have hw : W64 x := by
        obtain ⟨p, hp1, hp2⟩ := List.any_eq_true.1 h
        obtain ⟨y, hy, hyw⟩ := hk p hp1
        have := WideAt.sameKey_eq hp2
        rw [hy] at this
        injection this with _ e
        exact e ▸ hyw
      have h4 := (h3 x hw).1
      change Maps.has (.map es) (.int .i64 x) = _ at h4
      rw [h] at h4
      cases e : look xs x with
      | none => rw [e] at h4; cases h4
      | some m =>
        obtain ⟨h5, h6⟩ := (look_some (hs.nd.perm hp)).1 e
        exact List.mem_map.2 ⟨m, hp.mem_iff.2 h5, h6⟩
  have h5 := perm_intKeys hes (fun p hp => by obtain ⟨x, hx, _⟩ := hk p hp; exact ⟨x, hx⟩) hnd hm
  rw [mergeSort_of_perm_i (hss.trans h5.symm)]
  exact List.mergeSort_of_pairwise (List.pairwise_map.2 (hs.imp (fun h => by simp [leI]; omega)))

theorem msg_keysfn (mb : Option Nat) (w : World) : Calls Try.prog 29 #[.map mb] w fun e w' => e = .returned (.func (.func 41) #[] #[.pointer (some ⟨w.heap.size, 0, none⟩)]) ∧ w' = w.alloc (.cells #[.map mb] 53) :=
  (callsIn_wide (n := 5)).1 (AnyZI.keys_in ky Fence.wide 5 trivial rfl mb w)
theorem sortsIn (m : Nat) : AnyZI.SortsIn Try.prog sd_ren Fence.wide m :=
  ⟨fun blk off cap ss W hH hblk hsz => callsIn_wide.2 (AnyM.slices_Sort_int so blk off cap ss W hH hblk hsz), fun p cap W => callsIn_wide.2 (AnyM.slices_Sort_int_none so p cap W)⟩
/-- The keys of the map, sorted. -/
theorem msg_sorted {w : World} {b : Nat} {xs ws : List Msg} (h : MsgMap w b xs) (hx : ∀ m ∈ xs, W64 m.key) (hfew : xs.length ≤ 10000) (hs : Rise ws) (hp : ws.Perm xs) :
    Calls Try.prog 28 #[.func (.func 41) #[] #[.pointer (some ⟨w.heap.size, 0, none⟩)]] (w.alloc (.cells #[.map (some b)] 53)) fun e w' => ∃ a c, e = .returned (.slice a ws.length c) ∧ IntRow w' a ws.length (fun i => (mget ws i).key) ∧ Below w.heap.size w w' := by
  have hbl := h.lt
  obtain ⟨D, h1, h2, h3⟩ := h
  refine (callsIn_wide (n := 6)).1 ?_
  have hseq : SeqGives Fence.wide 3 Try.prog 41 #[.pointer (some ⟨w.heap.size, 0, none⟩)] encZ (fun ss => ss.Perm (intKeys D)) (Maps.size D) (w.alloc (.cells #[.map (some b)] 53)) :=
    AnyZI.keys_gives (ρ := ky_ren) { ky with } Fence.wide _ trivial rfl (by omega) w.heap.size b xs.length D _ (by simp) (by simp) (h1.alloc _)
  have cS := AnyZI.sorted_in sd Fence.wide 6 trivial trivial trivial trivial rfl (by omega) (sortsIn _) (enters_of Try.func26 (by kernel_rfl) rfl) 41 #[.pointer (some ⟨w.heap.size, 0, none⟩)] trivial (enters_of Try.func41 (by kernel_rfl) rfl) _ _ (by unfold maxLen; omega) (by omega) _ hseq
  change CallsIn _ _ Try.prog 28 _ _ _ at cS
  refine cS.mono ?_
  rintro e w' ⟨v, ss, rfl, hS, hrow, hnil, hb⟩
  have hk := msg_keys h1 h3 hx hs hp hS
  change _ = _ at hk
  have hk' : (ss.mergeSort fun x y => decide (x ≤ y)) = ws.map (·.key) := hk
  have hl : ss.length = ws.length := by
    have := congrArg List.length hk
    rw [List.length_mergeSort, List.length_map] at this
    exact this
  rw [hk', hl] at hrow
  have hB : Below w.heap.size w w' := (upd_box _).trans (hb.mono (by simp))
  rcases hrow.2 with ⟨e1, e2⟩ | ⟨g, cap, cur, e1, e2, e3, e4, e5, e6, e7⟩
  · exact ⟨none, 0, by rw [e1, ← e2], fun h0 => by omega, hB⟩
  · subst e1
    refine ⟨_, _, rfl, fun h0 => ⟨g, 0, rfl, (Array.getElem?_eq_some_iff.1 e3).1, fun k hk => ?_⟩, hB⟩
    rw [Nat.zero_add, hrow.cellAt k (by omega)]
    rw [List.getElem?_map, List.getElem?_map, List.getElem?_eq_getElem hk]
    show _ = some (Value.int .i64 (mget ws k).key)
    rw [mget_eq hk]
    rfl
/-- .. of no map. -/
theorem msg_sorted_nil (w : World) : Calls Try.prog 28 #[.func (.func 41) #[] #[.pointer (some ⟨w.heap.size, 0, none⟩)]] (w.alloc (.cells #[.map none] 53)) fun e w' => e = .returned (.slice none 0 0) ∧ Below w.heap.size w w' := by
  refine (callsIn_wide (n := 6)).1 ?_
  have hseq : SeqGives Fence.wide 3 Try.prog 41 #[.pointer (some ⟨w.heap.size, 0, none⟩)] encZ (fun ss : List Int => ss = []) 0 (w.alloc (.cells #[.map none] 53)) :=
    AnyZI.keys_gives_nil (ρ := ky_ren) { ky with } Fence.wide _ trivial rfl w.heap.size _ (by simp) (by simp)
  have cS := AnyZI.sorted_in sd Fence.wide 6 trivial trivial trivial trivial rfl (by omega) (sortsIn _) (enters_of Try.func26 (by kernel_rfl) rfl) 41 #[.pointer (some ⟨w.heap.size, 0, none⟩)] trivial (enters_of Try.func41 (by kernel_rfl) rfl) _ 0 (Nat.zero_le _) (by omega) _ hseq
  change CallsIn _ _ Try.prog 28 _ _ _ at cS
  refine cS.mono ?_
  rintro e w' ⟨v, ss, rfl, rfl, hrow, hnil, hb⟩
  obtain rfl : v = .slice none 0 0 := hnil.2 rfl
  exact ⟨rfl, (upd_box _).trans (hb.mono (by simp))⟩
end Go.Proofs.Ytcnheikckfhniaa
