/-
  Package ledger, call by call: isAccount, Balance, Post, Total. Conditions: those of each theorem.
-/
import Derived.Test.YtaboaljpnacnfaaPurseSub
import Derived.Test.YtaboaljpnacnfaaOps
import Derived.Deep.LoopGhost
import Derived.Laws.Rows
namespace Go.Proofs.Ytaboaljpnacnfaa
open Go.RowKit
set_option maxRecDepth 100000

/-- Five sums. -/
def five (g : Nat → Int) : Array Value := #[.int .i64 (g 0), .int .i64 (g 1), .int .i64 (g 2), .int .i64 (g 3), .int .i64 (g 4)]
theorem five_size (g : Nat → Int) : (five g).size = 5 := rfl
theorem five_get (g : Nat → Int) (i : Nat) (h : i < (five g).size) : (five g)[i] = .int .i64 (g i) := by
  rw [five_size] at h
  match i, h with
  | 0, _ => rfl
  | 1, _ => rfl
  | 2, _ => rfl
  | 3, _ => rfl
  | 4, _ => rfl
/-- One of them is another. -/
def turned (g : Nat → Int) (i : Nat) (v : Int) : Nat → Int := fun k => if k = i then v else g k
theorem five_set (g : Nat → Int) (i : Nat) (v : Int) (h : i < 5) : (five g).setIfInBounds i (.int .i64 v) = five (turned g i v) := by
  match i, h with
  | 0, _ => rfl
  | 1, _ => rfl
  | 2, _ => rfl
  | 3, _ => rfl
  | 4, _ => rfl

theorem ledger_isAccount (a : Int) (w : World) : Calls Try.prog 12 #[.int .i64 a] w fun e w' => e = .returned (.bool (decide (0 ≤ a ∧ a < 5))) ∧ w = w' := by
  by_cases h1 : (0 : Int) ≤ a
  · by_cases h2 : a < (5 : Int)
    · go_enter Try.func12, Try.ntmps12
      go_wp2
      go_ret
      exact ⟨by simp [h1, h2], rfl⟩
    · go_enter Try.func12, Try.ntmps12
      go_wp2
      go_ret
      exact ⟨by simp [h2], rfl⟩
  · go_enter Try.func12, Try.ntmps12
    go_wp2
    go_ret
    exact ⟨by simp; omega, rfl⟩
theorem ledger_isAccount_yes (a : Nat) (h : a < 5) (w : World) : Calls Try.prog 12 #[.int .i64 a] w fun e w' => e = .returned (.bool true) ∧ w = w' := by
  have := ledger_isAccount a w
  rwa [decide_eq_true (by omega)] at this
theorem ledger_isAccount_no (a : Int) (h : ¬ (0 ≤ a ∧ a < 5)) (w : World) : Calls Try.prog 12 #[.int .i64 a] w fun e w' => e = .returned (.bool false) ∧ w = w' := by
  have := ledger_isAccount a w
  rwa [decide_eq_false h] at this

/-- What an account has. -/
def balanceOf (g : Nat → Int) (a : Int) : Int := if 0 ≤ a ∧ a < 5 then g a.toNat else 0

theorem ledger_balance (g : Nat → Int) (a : Int) (w : World) : Calls Try.prog 10 #[.agg (five g), .int .i64 a] w fun e w' => e = .returned (.int .i64 (balanceOf g a)) ∧ Below w.heap.size w w' := by
  have h5 := five_size
  have hget := five_get
  by_cases h : 0 ≤ a ∧ a < 5
  · obtain ⟨n, rfl⟩ := Int.eq_ofNat_of_zero_le h.1
    have hn : n < 5 := by omega
    have hb : balanceOf g n = g n := by unfold balanceOf; rw [if_pos h]; rfl
    rw [hb]
    clear hb h
    go_enter Try.func10, Try.ntmps10
    go_wp2_with fail
    refine (ledger_isAccount_yes n hn _).mono ?_
    rintro e w1 ⟨rfl, rfl⟩
    go_wp2
    go_ret
    exact ⟨rfl, (Below.refl _ _).alloc (Nat.le_refl _) _⟩
  · have hb : balanceOf g a = 0 := by unfold balanceOf; rw [if_neg h]
    rw [hb]
    clear hb
    go_enter Try.func10, Try.ntmps10
    go_wp2_with fail
    refine (ledger_isAccount_no a h _).mono ?_
    rintro e w1 ⟨rfl, rfl⟩
    go_wp2
    go_ret
    exact ⟨rfl, (Below.refl _ _).alloc (Nat.le_refl _) _⟩

/-- A struct that lies in a box, and one result more. -/
theorem results_row_tmp {P : Program} {fn : Func} {p u : Tmp} {ty : TypeId} (h : fn.results = #[.cell p ty, .tmp u]) (tmps : Array Value) (w : World) (g : Nat) (t : TypeId) (cs : Array Value) (fr : Nat × Nat) (d : TypeDesc)
    (hp : tmps.getD p undef = .pointer (some ⟨g, 0, none⟩)) (hg : w.heap[g]? = some (.cells cs t fr))
    (hu : P.underlying ty = some d) (hd : (match d with | .struct _ | .array _ _ => true | _ => false) = true) (hi : (P.info? ty).map (·.size) = some cs.size) :
    (results fn tmps).run P w = .ok (.tuple #[.agg cs, tmps.getD u undef]) w := by
  have hp' : tmps[p]?.getD undef = .pointer (some ⟨g, 0, none⟩) := by simpa using hp
  simp [results, h, hp', asAddr, run_loadVar_row w g t ty cs fr d hg hu hd hi]
theorem ledger_info : (Try.prog.info? 26).map (·.size) = some 5 := by kernel_rfl
theorem below_two (w : World) (A B : Obj) : Below w.heap.size w ((w.alloc A).alloc B) := ((Below.refl _ _).alloc (Nat.le_refl _) _).alloc (by simp) _

/-- What is told of a posting. -/
def goodArgs (f t s : Int) : Bool := decide (0 ≤ f ∧ f < 5 ∧ 0 ≤ t ∧ t < 5 ∧ f ≠ t ∧ 0 ≤ s)
def postE (g : Nat → Int) (f t s : Int) : Int :=
  if goodArgs f t s then
    if Rt (g f.toNat) && Rt s && Rt (g f.toNat - s) && (Rt (g t.toNat) && Rt s && Rt (g t.toNat + s)) then 0 else 9
  else 1
def posted (g : Nat → Int) (f t s : Int) : Nat → Int := turned (turned g f.toNat (g f.toNat - s)) t.toNat (g t.toNat + s)
def postL (g : Nat → Int) (f t s : Int) : Nat → Int := if postE g f t s = 0 then posted g f t s else fun _ => 0

set_option maxHeartbeats 1000000 in
theorem ledger_post_ok (g : Nat → Int) (f t : Nat) (hf : f < 5) (ht : t < 5) (hne : f ≠ t) (s : Int) (hs : 0 ≤ s) (ok1 : (Rt (g f) && Rt s && Rt (g f - s)) = true) (ok2 : (Rt (g t) && Rt s && Rt (g t + s)) = true) (w : World) :
    Calls Try.prog 8 #[.agg (five g), .int .i64 f, .int .i64 t, .int .i64 s] w fun e w' => e = .returned (.tuple #[.agg (five (turned (turned g f (g f - s)) t (g t + s))), .int .i64 0]) ∧ Below w.heap.size w w' := by
  have n1 : ((f : Int) == (t : Int)) = false := by simp; omega
  have f5 : (f : Int) < 5 := by omega
  have t5 : (t : Int) < 5 := by omega
  have h5 := five_size
  have hget := five_get
  have hset := five_set
  have hS := fun W => cents_sub (g f) s W
  rw [told_yes (by simpa using ok1)] at hS
  have hA := fun W => cents_add (g t) s W
  rw [told_yes (by simpa using ok2)] at hA
  have HS : Aside _ := hS
  have HA : Aside _ := hA
  clear ok1 ok2 hS hA
  go_enter Try.func8, Try.ntmps8
  go_wp2_with fail
  refine (ledger_isAccount_yes f hf _).mono ?_
  rintro e w1 ⟨rfl, rfl⟩
  go_wp2_with fail
  refine (ledger_isAccount_yes t ht _).mono ?_
  rintro e w1 ⟨rfl, rfl⟩
  go_wp2_with fail
  refine (HS.out _).mono ?_
  rintro e w1 ⟨rfl, rfl⟩
  go_wp2_with fail
  refine (HA.out _).mono ?_
  rintro e w1 ⟨rfl, rfl⟩
  go_wp2_with fail
  refine bodyPost_ret (results_row_tmp rfl _ _ _ _ _ _ _ rfl (heap_alloc2_new w _ _) Try.underlying26 rfl ledger_info) rfl ⟨rfl, below_two w _ _⟩

set_option maxHeartbeats 1000000 in
theorem ledger_post_from (g : Nat → Int) (f t s : Int) (hf : ¬ (0 ≤ f ∧ f < 5)) (w : World) :
    Calls Try.prog 8 #[.agg (five g), .int .i64 f, .int .i64 t, .int .i64 s] w fun e w' => e = .returned (.tuple #[.agg (five fun _ => 0), .int .i64 1]) ∧ Below w.heap.size w w' := by
  go_enter Try.func8, Try.ntmps8
  go_wp2_with fail
  refine (ledger_isAccount_no f hf _).mono ?_
  rintro e w1 ⟨rfl, rfl⟩
  go_wp2_with fail
  refine bodyPost_ret (results_row_tmp rfl _ _ _ _ _ _ _ rfl (heap_alloc2_new w _ _) Try.underlying26 rfl ledger_info) rfl ⟨rfl, below_two w _ _⟩

set_option maxHeartbeats 1000000 in
theorem ledger_post_to (g : Nat → Int) (f : Nat) (t s : Int) (hf : f < 5) (ht : ¬ (0 ≤ t ∧ t < 5)) (w : World) :
    Calls Try.prog 8 #[.agg (five g), .int .i64 f, .int .i64 t, .int .i64 s] w fun e w' => e = .returned (.tuple #[.agg (five fun _ => 0), .int .i64 1]) ∧ Below w.heap.size w w' := by
  go_enter Try.func8, Try.ntmps8
  go_wp2_with fail
  refine (ledger_isAccount_yes f hf _).mono ?_
  rintro e w1 ⟨rfl, rfl⟩
  go_wp2_with fail
  refine (ledger_isAccount_no t ht _).mono ?_
  rintro e w1 ⟨rfl, rfl⟩
  go_wp2_with fail
  refine bodyPost_ret (results_row_tmp rfl _ _ _ _ _ _ _ rfl (heap_alloc2_new w _ _) Try.underlying26 rfl ledger_info) rfl ⟨rfl, below_two w _ _⟩

set_option maxHeartbeats 1000000 in
theorem ledger_post_same (g : Nat → Int) (f : Nat) (s : Int) (hf : f < 5) (w : World) :
    Calls Try.prog 8 #[.agg (five g), .int .i64 f, .int .i64 f, .int .i64 s] w fun e w' => e = .returned (.tuple #[.agg (five fun _ => 0), .int .i64 1]) ∧ Below w.heap.size w w' := by
  go_enter Try.func8, Try.ntmps8
  go_wp2_with fail
  refine (ledger_isAccount_yes f hf _).mono ?_
  rintro e w1 ⟨rfl, rfl⟩
  go_wp2_with fail
  refine (ledger_isAccount_yes f hf _).mono ?_
  rintro e w1 ⟨rfl, rfl⟩
  go_wp2_with fail
  refine bodyPost_ret (results_row_tmp rfl _ _ _ _ _ _ _ rfl (heap_alloc2_new w _ _) Try.underlying26 rfl ledger_info) rfl ⟨rfl, below_two w _ _⟩

set_option maxHeartbeats 1000000 in
theorem ledger_post_below (g : Nat → Int) (f t : Nat) (s : Int) (hf : f < 5) (ht : t < 5) (hne : f ≠ t) (hs : s < 0) (w : World) :
    Calls Try.prog 8 #[.agg (five g), .int .i64 f, .int .i64 t, .int .i64 s] w fun e w' => e = .returned (.tuple #[.agg (five fun _ => 0), .int .i64 1]) ∧ Below w.heap.size w w' := by
  have n1 : ((f : Int) == (t : Int)) = false := by simp; omega
  go_enter Try.func8, Try.ntmps8
  go_wp2_with fail
  refine (ledger_isAccount_yes f hf _).mono ?_
  rintro e w1 ⟨rfl, rfl⟩
  go_wp2_with fail
  refine (ledger_isAccount_yes t ht _).mono ?_
  rintro e w1 ⟨rfl, rfl⟩
  go_wp2_with fail
  refine bodyPost_ret (results_row_tmp rfl _ _ _ _ _ _ _ rfl (heap_alloc2_new w _ _) Try.underlying26 rfl ledger_info) rfl ⟨rfl, below_two w _ _⟩

set_option maxHeartbeats 1000000 in
theorem ledger_post_sub (g : Nat → Int) (f t : Nat) (s : Int) (hf : f < 5) (ht : t < 5) (hne : f ≠ t) (hs : 0 ≤ s) (ok1 : (Rt (g f) && Rt s && Rt (g f - s)) = false) (w : World) :
    Calls Try.prog 8 #[.agg (five g), .int .i64 f, .int .i64 t, .int .i64 s] w fun e w' => e = .returned (.tuple #[.agg (five fun _ => 0), .int .i64 9]) ∧ Below w.heap.size w w' := by
  have n1 : ((f : Int) == (t : Int)) = false := by simp; omega
  have f5 : (f : Int) < 5 := by omega
  have t5 : (t : Int) < 5 := by omega
  have h5 := five_size
  have hget := five_get
  have hS := fun W => cents_sub (g f) s W
  rw [told_no (by simpa using ok1)] at hS
  have HS : Aside _ := hS
  clear ok1 hS
  go_enter Try.func8, Try.ntmps8
  go_wp2_with fail
  refine (ledger_isAccount_yes f hf _).mono ?_
  rintro e w1 ⟨rfl, rfl⟩
  go_wp2_with fail
  refine (ledger_isAccount_yes t ht _).mono ?_
  rintro e w1 ⟨rfl, rfl⟩
  go_wp2_with fail
  refine (HS.out _).mono ?_
  rintro e w1 ⟨rfl, rfl⟩
  go_wp2_with fail
  refine bodyPost_ret (results_row_tmp rfl _ _ _ _ _ _ _ rfl (heap_alloc2_new w _ _) Try.underlying26 rfl ledger_info) rfl ⟨rfl, below_two w _ _⟩

set_option maxHeartbeats 1000000 in
theorem ledger_post_add (g : Nat → Int) (f t : Nat) (s : Int) (hf : f < 5) (ht : t < 5) (hne : f ≠ t) (hs : 0 ≤ s) (ok1 : (Rt (g f) && Rt s && Rt (g f - s)) = true) (ok2 : (Rt (g t) && Rt s && Rt (g t + s)) = false) (w : World) :
    Calls Try.prog 8 #[.agg (five g), .int .i64 f, .int .i64 t, .int .i64 s] w fun e w' => e = .returned (.tuple #[.agg (five fun _ => 0), .int .i64 9]) ∧ Below w.heap.size w w' := by
  have n1 : ((f : Int) == (t : Int)) = false := by simp; omega
  have f5 : (f : Int) < 5 := by omega
  have t5 : (t : Int) < 5 := by omega
  have h5 := five_size
  have hget := five_get
  have hS := fun W => cents_sub (g f) s W
  rw [told_yes (by simpa using ok1)] at hS
  have hA := fun W => cents_add (g t) s W
  rw [told_no (by simpa using ok2)] at hA
  have HS : Aside _ := hS
  have HA : Aside _ := hA
  clear ok1 ok2 hS hA
  go_enter Try.func8, Try.ntmps8
  go_wp2_with fail
  refine (ledger_isAccount_yes f hf _).mono ?_
  rintro e w1 ⟨rfl, rfl⟩
  go_wp2_with fail
  refine (ledger_isAccount_yes t ht _).mono ?_
  rintro e w1 ⟨rfl, rfl⟩
  go_wp2_with fail
  refine (HS.out _).mono ?_
  rintro e w1 ⟨rfl, rfl⟩
  go_wp2_with fail
  refine (HA.out _).mono ?_
  rintro e w1 ⟨rfl, rfl⟩
  go_wp2_with fail
  refine bodyPost_ret (results_row_tmp rfl _ _ _ _ _ _ _ rfl (heap_alloc2_new w _ _) Try.underlying26 rfl ledger_info) rfl ⟨rfl, below_two w _ _⟩

/-- What is told of a posting, whatever is posted. -/
theorem ledger_post (g : Nat → Int) (f t s : Int) (w : World) :
    Calls Try.prog 8 #[.agg (five g), .int .i64 f, .int .i64 t, .int .i64 s] w fun e w' => e = .returned (.tuple #[.agg (five (postL g f t s)), .int .i64 (postE g f t s)]) ∧ Below w.heap.size w w' := by
  by_cases hf : 0 ≤ f ∧ f < 5
  · by_cases ht : 0 ≤ t ∧ t < 5
    · obtain ⟨f, rfl⟩ := Int.eq_ofNat_of_zero_le hf.1
      obtain ⟨t, rfl⟩ := Int.eq_ofNat_of_zero_le ht.1
      have hf5 : f < 5 := by omega
      have ht5 : t < 5 := by omega
      by_cases hne : f = t
      · subst hne
        have e1 : postE g f f s = 1 := by unfold postE goodArgs; rw [if_neg (by simp)]
        have e2 : postL g f f s = fun _ => 0 := by unfold postL; rw [e1, if_neg (by decide)]
        rw [e1, e2]
        exact ledger_post_same g f s hf5 w
      · by_cases hs : 0 ≤ s
        · have hg : goodArgs f t s = true := by unfold goodArgs; exact decide_eq_true (by omega)
          by_cases ok1 : (Rt (g f) && Rt s && Rt (g f - s)) = true
          · by_cases ok2 : (Rt (g t) && Rt s && Rt (g t + s)) = true
            · have e1 : postE g f t s = 0 := by
                unfold postE
                rw [if_pos hg]
                simp only [Int.toNat_natCast]
                rw [if_pos (by rw [ok1, ok2]; rfl)]
              have e2 : postL g f t s = turned (turned g f (g f - s)) t (g t + s) := by unfold postL; rw [e1, if_pos rfl]; rfl
              rw [e1, e2]
              exact ledger_post_ok g f t hf5 ht5 hne s hs ok1 ok2 w
            · have ok2 : (Rt (g t) && Rt s && Rt (g t + s)) = false := by simpa using ok2
              have e1 : postE g f t s = 9 := by
                unfold postE
                rw [if_pos hg]
                simp only [Int.toNat_natCast]
                rw [if_neg (by rw [ok1, ok2]; decide)]
              have e2 : postL g f t s = fun _ => 0 := by unfold postL; rw [e1, if_neg (by decide)]
              rw [e1, e2]
              exact ledger_post_add g f t s hf5 ht5 hne hs ok1 ok2 w
          · have ok1 : (Rt (g f) && Rt s && Rt (g f - s)) = false := by simpa using ok1
            have e1 : postE g f t s = 9 := by
              unfold postE
              rw [if_pos hg]
              simp only [Int.toNat_natCast]
              rw [if_neg (by simp [ok1])]
            have e2 : postL g f t s = fun _ => 0 := by unfold postL; rw [e1, if_neg (by decide)]
            rw [e1, e2]
            exact ledger_post_sub g f t s hf5 ht5 hne hs ok1 w
        · have e1 : postE g f t s = 1 := by unfold postE goodArgs; rw [if_neg (by simp; omega)]
          have e2 : postL g f t s = fun _ => 0 := by unfold postL; rw [e1, if_neg (by decide)]
          rw [e1, e2]
          exact ledger_post_below g f t s hf5 ht5 hne (by omega) w
    · obtain ⟨f, rfl⟩ := Int.eq_ofNat_of_zero_le hf.1
      have e1 : postE g f t s = 1 := by unfold postE goodArgs; rw [if_neg (by simp; omega)]
      have e2 : postL g f t s = fun _ => 0 := by unfold postL; rw [e1, if_neg (by decide)]
      rw [e1, e2]
      exact ledger_post_to g f t s (by omega) ht w
  · have e1 : postE g f t s = 1 := by unfold postE goodArgs; rw [if_neg (by simp; omega)]
    have e2 : postL g f t s = fun _ => 0 := by unfold postL; rw [e1, if_neg (by decide)]
    rw [e1, e2]
    exact ledger_post_from g f t s hf w

/-- What the first accounts have together, wrapped. -/
def tot (g : Nat → Int) : Nat → Int
  | 0 => 0
  | k + 1 => wrap64 (tot g k + g k)

theorem ledger_total (g : Nat → Int) (w : World) : Calls Try.prog 11 #[.agg (five g)] w fun e w' => e = .returned (.int .i64 (tot g 5)) ∧ Below w.heap.size w w' := by
  have h5 := five_size
  have hget := five_get
  go_enter Try.func11, Try.ntmps11
  go_wp2
  go_loop [3, 8] (fun v i => ∃ k : Nat, k ≤ 5 ∧ i = .int .i64 k ∧ v = .int .i64 (tot g k)) (fun _ i => 5 - (intOf i).toNat)
  case atStart => exact ⟨0, by omega, rfl, rfl⟩
  case round =>
    obtain ⟨k, hk, rfl, rfl⟩ := hrel
    by_cases hlt : k < 5
    · have hlt' : (k : Int) < 5 := by omega
      have hix : ∀ W, (Instr.index 22 (.agg (five g)) (.int .i64 (k : Int))).run Try.prog W = .ok (.int .i64 (g k)) W := fun W =>
        run_index_one (P := Try.prog) W 22 2 5 _ (five g) .i64 k _ hlt Try.underlying22 Try.underlying2 rfl (by kernel_rfl) (by rw [Array.getElem?_eq_getElem (by rw [five_size]; exact hlt), five_get])
      unfold five at hix
      go_wp2
      go_round
      case rel => exact ⟨k + 1, by omega, by go_num, rfl⟩
      case measure => simp [intOf]; omega
    · obtain rfl : k = 5 := by omega
      go_wp2
      go_ret
      exact ⟨rfl, (Below.refl _ _).alloc (Nat.le_refl _) _⟩
end Go.Proofs.Ytaboaljpnacnfaa
