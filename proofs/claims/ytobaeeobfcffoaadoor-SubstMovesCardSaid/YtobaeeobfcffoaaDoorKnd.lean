/- Kinds: how many kids, which are below a binder. -/
import Derived.Test.YtobaeeobfcffoaaDoorW
namespace Go.Proofs.YtobaeeobfcffoaaDoor
open Go.RowKit

/-- How many kids a kind has. -/
def kidsN (k : Int) : Int := if k = 4 ∨ k = 5 ∨ k = 6 ∨ k = 7 then 2 else if k = 8 ∨ k = 11 then 3 else if k = 9 ∨ k = 10 then 1 else 0
/-- The binders of a node below which a kid is. -/
def binI (k j : Int) : Int := if (j = 1 ∧ (k = 5 ∨ k = 6 ∨ k = 7)) ∨ (j = 2 ∧ k = 11) then 1 else 0
def isKd (k : Int) : Bool := decide (0 ≤ k) && decide (k < 13)

set_option maxRecDepth 100000 in
set_option maxHeartbeats 1000000 in
theorem isKind_any (k : Int) (w : World) : Calls Tryd.prog 66 #[.int .i64 k] w fun e w' => e = .returned (.bool (isKd k)) ∧ w' = w := by
  obtain ⟨b1, h1⟩ : ∃ b, decide (0 ≤ k) = b := ⟨_, rfl⟩
  obtain ⟨b2, h2⟩ : ∃ b, decide (k < 13) = b := ⟨_, rfl⟩
  have hl : isKd k = (b1 && b2) := by unfold isKd; rw [h1, h2]
  rw [hl]
  clear hl
  cases b1 <;> cases b2 <;>
  · go_enter Tryd.func66, Tryd.ntmps66
    go_wp2
    go_ret
    exact ⟨rfl, rfl⟩

set_option maxRecDepth 100000 in
set_option maxHeartbeats 1000000 in
theorem rkids_any (k : Int) (w : World) : Calls Tryd.prog 81 #[.int .i64 k] w fun e w' => e = .returned (.int .i64 (kidsN k)) ∧ w' = w := by
  by_cases e4 : k = 4
  · subst e4
    rw [show kidsN 4 = 2 from by decide]
    go_enter Tryd.func81, Tryd.ntmps81
    go_wp2
    go_ret
    exact ⟨rfl, rfl⟩
  by_cases e5 : k = 5
  · subst e5
    rw [show kidsN 5 = 2 from by decide]
    go_enter Tryd.func81, Tryd.ntmps81
    go_wp2
    go_ret
    exact ⟨rfl, rfl⟩
  by_cases e6 : k = 6
  · subst e6
    rw [show kidsN 6 = 2 from by decide]
    go_enter Tryd.func81, Tryd.ntmps81
    go_wp2
    go_ret
    exact ⟨rfl, rfl⟩
  by_cases e7 : k = 7
  · subst e7
    rw [show kidsN 7 = 2 from by decide]
    go_enter Tryd.func81, Tryd.ntmps81
    go_wp2
    go_ret
    exact ⟨rfl, rfl⟩
  by_cases e8 : k = 8
  · subst e8
    rw [show kidsN 8 = 3 from by decide]
    go_enter Tryd.func81, Tryd.ntmps81
    go_wp2
    go_ret
    exact ⟨rfl, rfl⟩
  by_cases e11 : k = 11
  · subst e11
    rw [show kidsN 11 = 3 from by decide]
    go_enter Tryd.func81, Tryd.ntmps81
    go_wp2
    go_ret
    exact ⟨rfl, rfl⟩
  by_cases e9 : k = 9
  · subst e9
    rw [show kidsN 9 = 1 from by decide]
    go_enter Tryd.func81, Tryd.ntmps81
    go_wp2
    go_ret
    exact ⟨rfl, rfl⟩
  by_cases e10 : k = 10
  · subst e10
    rw [show kidsN 10 = 1 from by decide]
    go_enter Tryd.func81, Tryd.ntmps81
    go_wp2
    go_ret
    exact ⟨rfl, rfl⟩
  have hk : kidsN k = 0 := by unfold kidsN; simp [e4, e5, e6, e7, e8, e11, e9, e10]
  rw [hk]
  have b4 : (k == 4) = false := by rw [beq_eq_false_iff_ne]; exact e4
  have b5 : (k == 5) = false := by rw [beq_eq_false_iff_ne]; exact e5
  have b6 : (k == 6) = false := by rw [beq_eq_false_iff_ne]; exact e6
  have b7 : (k == 7) = false := by rw [beq_eq_false_iff_ne]; exact e7
  have b8 : (k == 8) = false := by rw [beq_eq_false_iff_ne]; exact e8
  have b11 : (k == 11) = false := by rw [beq_eq_false_iff_ne]; exact e11
  have b9 : (k == 9) = false := by rw [beq_eq_false_iff_ne]; exact e9
  have b10 : (k == 10) = false := by rw [beq_eq_false_iff_ne]; exact e10
  clear hk
  go_enter Tryd.func81, Tryd.ntmps81
  go_wp2
  go_ret
  exact ⟨rfl, rfl⟩

set_option maxRecDepth 100000 in
set_option maxHeartbeats 1000000 in
theorem rbelow_any (k j : Int) (w : World) : Calls Tryd.prog 59 #[.int .i64 k, .int .i64 j] w fun e w' => e = .returned (.int .i64 (binI k j)) ∧ w' = w := by
  obtain ⟨j1, h1⟩ : ∃ b, (j == 1) = b := ⟨_, rfl⟩
  obtain ⟨j2, h2⟩ : ∃ b, (j == 2) = b := ⟨_, rfl⟩
  obtain ⟨k5, h5⟩ : ∃ b, (k == 5) = b := ⟨_, rfl⟩
  obtain ⟨k6, h6⟩ : ∃ b, (k == 6) = b := ⟨_, rfl⟩
  obtain ⟨k7, h7⟩ : ∃ b, (k == 7) = b := ⟨_, rfl⟩
  obtain ⟨k11, h11⟩ : ∃ b, (k == 11) = b := ⟨_, rfl⟩
  have hl : binI k j = if ((j1 && (k5 || k6 || k7)) || (j2 && k11)) = true then 1 else 0 := by
    unfold binI
    rw [← h1, ← h2, ← h5, ← h6, ← h7, ← h11]
    simp only [Bool.or_eq_true, Bool.and_eq_true, beq_iff_eq, or_assoc]
  have HL := Lib.hid hl
  clear hl
  rw [HL.out]
  clear HL
  cases j1 <;> cases j2 <;> cases k5 <;> cases k6 <;> cases k7 <;> cases k11 <;>
  · go_enter Tryd.func59, Tryd.ntmps59
    go_wp2
    go_ret
    exact ⟨rfl, rfl⟩
    
end Go.Proofs.YtobaeeobfcffoaaDoor
