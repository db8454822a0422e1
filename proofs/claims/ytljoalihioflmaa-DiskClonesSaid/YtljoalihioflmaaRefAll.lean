/-
  The reference's disk (package recoupref01): Act, whatever the kind 0 to 5. Conditions: those of the theorem ('RefAt': the pointer leads to a reference disk that holds D).
-/
import Derived.Test.YtljoalihioflmaaRefF
import Derived.Test.YtljoalihioflmaaRefG1
import Derived.Test.YtljoalihioflmaaRefG2
import Derived.Test.YtljoalihioflmaaRefG3
namespace Go.Proofs.Ytljoalihioflmaa
open Go.RowKit
set_option maxRecDepth 100000
set_option linter.unusedVariables false
set_option linter.unusedSimpArgs false

theorem DM.act_lost {D : DM} (hl : D.lost = true) (k A B : Int) (ys : List UInt8) : D.act k A B ys = (6, D) := by
  simp [DM.act, DM.append, DM.sync, DM.cut, DM.rename, DM.remove, DM.lightUp, DM.prs, rd, hl]
theorem DM.act_range {D : DM} (hl : D.lost = false) (k A B : Int) (hA : inRange A = false) (hk : k = 0 ∨ k = 1 ∨ k = 2 ∨ k = 3 ∨ k = 4) (ys : List UInt8) : D.act k A B ys = (1, D) := by
  rcases hk with rfl | rfl | rfl | rfl | rfl <;> simp [DM.act, DM.append, DM.sync, DM.cut, DM.rename, DM.remove, DM.prs, rd, rdy, hl, hA]
theorem DM.act_none {D : DM} (hl : D.lost = false) (k A B : Int) (hA : inRange A = true) (hh : (D.f A.toNat).has = false) (hk : k = 1 ∨ k = 2 ∨ k = 4) (ys : List UInt8) : D.act k A B ys = (7, D) := by
  rcases hk with rfl | rfl | rfl <;> simp [DM.act, DM.sync, DM.cut, DM.remove, DM.prs, hl, hA, hh]

theorem ract {w : World} {p : Nat} {S : Nat → Prop} {V : Nat → Value} {D : DM} (h : RefAt w p S V D) (k A B : Int) (ad : Option Addr) (ys : List UInt8) (cy : Nat) (hk0 : 0 ≤ k) (hk5 : k ≤ 5) (hB : B ≤ 9223372036854775807)
    (hyc : ys.length ≤ cy) (hycm : cy ≤ maxLen) (hyb : IsBytes w ad ys) (hyn : ad = none → cy = 0) (hys : ys ≠ [] → ∀ x, ad = some x → ¬ S x.block) :
    Calls Try.prog 17 #[.pointer (some ⟨p, 0, none⟩), .int .i64 k, .int .i64 A, .int .i64 B, .slice ad ys.length cy] w (AfterR w p S (D.act k A B ys)) := by
  by_cases hl : D.lost = true
  · rw [DM.act_lost hl]; exact ract_lost h k A B _ hl
  have hl : D.lost = false := by simpa using hl
  by_cases h5 : k = 5
  · subst h5; exact ract_fuse h A B _ hl hB
  have hk : k = 0 ∨ k = 1 ∨ k = 2 ∨ k = 3 ∨ k = 4 := by omega
  by_cases hA : inRange A = true
  · obtain ⟨i, rfl, hi⟩ : ∃ i : Nat, A = i ∧ i < 8 := by
      simp [inRange] at hA
      exact ⟨A.toNat, by omega, by omega⟩
    rcases hk with rfl | rfl | rfl | rfl | rfl
    · have hrd : rd D.lost [(i : Int)] = 0 := by simp [rd, rdy, hl, hA]
      have e0 : D.act 0 i B ys = D.append i ys := rfl
      rw [e0]
      by_cases hfit : D.cap < D.used 8 + ys.length
      · have e : D.append i ys = (5, D) := by simp only [DM.append, hrd, hfit, if_true]
        rw [e]; exact ract_append_full h B i ad ys cy hl hi hyc hycm hyb hyn hys hfit
      · have hfit' : D.used 8 + ys.length ≤ D.cap := by omega
        rcases D.fuse_cases with ⟨hz, hsp⟩ | ⟨n, hn, hz, hlit, hfu, hsp⟩ | ⟨hz, _, hsp⟩
        · have e : D.append i ys = (6, ({ D with lost := true } : DM).set i { has := true, b := (D.f i).b ++ ys.take (ys.length / 2), safe := (D.f i).safe }) := by
            simp only [DM.append, hrd, hfit, hsp, if_true, if_false, Int.toNat_natCast]; rfl
          rw [e]; exact ract_append_spent h B i ad ys cy hl hi hyc hycm hyb hyn hys hfit' hz
        · have e : D.append i ys = (0, ({ D with lit := true, fuse := n - 1 } : DM).set i { has := true, b := (D.f i).b ++ ys, safe := (D.f i).safe }) := by
            simp only [DM.append, hrd, hfit, hsp, if_true, if_false, Int.toNat_natCast]
          rw [e]; exact ract_append_lit h B i ad ys cy hl hi hyc hycm hyb hyn hys hfit' n hn hz (by have := h.ok.fuse; omega)
        · have e : D.append i ys = (0, D.set i { has := true, b := (D.f i).b ++ ys, safe := (D.f i).safe }) := by
            simp only [DM.append, hrd, hfit, hsp, if_true, if_false, Int.toNat_natCast]
          rw [e]; exact ract_append_unlit h B i ad ys cy hl hi hyc hycm hyb hyn hys hfit' hz
    · by_cases hh : (D.f i).has = true
      · exact ract_sync h B i _ hl hi hh
      · have hh' : (D.f i).has = false := by simpa using hh
        rw [DM.act_none hl 1 i B hA (by simpa using hh') (by simp)]; exact ract_none h 1 B i _ hl (by simp) hi hh'
    · by_cases hh : (D.f i).has = true
      · exact ract_cut h B i _ hl hi hh
      · have hh' : (D.f i).has = false := by simpa using hh
        rw [DM.act_none hl 2 i B hA (by simpa using hh') (by simp)]; exact ract_none h 2 B i _ hl (by simp) hi hh'
    · have e0 : D.act 3 i B ys = D.rename i B := rfl
      rw [e0]
      by_cases hBr : inRange B = true
      · obtain ⟨j, rfl, hj⟩ : ∃ j : Nat, B = j ∧ j < 8 := by
          simp [inRange] at hBr
          exact ⟨B.toNat, by omega, by omega⟩
        exact ract_rename h i j _ hl hi hj
      · have hB' : inRange B = false := by simpa using hBr
        have e : D.rename i B = (1, D) := by simp [DM.rename, rd, rdy, hl, hA, hB']
        rw [e]; exact ract_rename_bad h B i _ hl hi hB'
    · by_cases hh : (D.f i).has = true
      · exact ract_remove h B i _ hl hi hh
      · have hh' : (D.f i).has = false := by simpa using hh
        rw [DM.act_none hl 4 i B hA (by simpa using hh') (by simp)]; exact ract_none h 4 B i _ hl (by simp) hi hh'
  · have hA' : inRange A = false := by simpa using hA
    rw [DM.act_range hl k A B hA' hk]; exact ract_range h k A B _ hl h5 hA'
end Go.Proofs.Ytljoalihioflmaa
