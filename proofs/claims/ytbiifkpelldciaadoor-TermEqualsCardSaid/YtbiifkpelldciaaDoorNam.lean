/- Names: Name of the program and of the reference. -/
import Derived.Test.YtbiifkpelldciaaDoorW
namespace Go.Proofs.YtbiifkpelldciaaDoor
open Go.RowKit

/-- A letter, by its number. -/
def chL (x : Int) : Bool := (decide (97 ≤ x) && decide (x ≤ 122)) || (decide (65 ≤ x) && decide (x ≤ 90))
def chU (x : Int) : Bool := chL x || decide (x = 95)
/-- What may stand inside a component beside letters. -/
def chN (x : Int) : Bool := decide (x = 39) || (decide (48 ≤ x) && decide (x ≤ 57))
/-- Whether the bytes go on a name; first: a component begins here. -/
def nmGo : List UInt8 → Bool → Bool
  | [], first => !first
  | c :: r, first => if chU c.toNat = true then nmGo r false else if first = true then false else if ((c.toNat : Int) = 46) then nmGo r true else if chN c.toNat = true then nmGo r false else false
def nameB (s : ByteArray) : Bool := decide (s.size ≤ 64) && nmGo s.data.toList true

set_option maxRecDepth 100000 in
set_option maxHeartbeats 1000000 in
theorem tletter_any (x : Int) (w : World) : Calls Tryd.prog 35 #[.int .u8 x] w fun e w' => e = .returned (.bool (chL x)) ∧ w' = w := by
  obtain ⟨b1, h1⟩ : ∃ b, decide (97 ≤ x) = b := ⟨_, rfl⟩
  obtain ⟨b2, h2⟩ : ∃ b, decide (x ≤ 122) = b := ⟨_, rfl⟩
  obtain ⟨b3, h3⟩ : ∃ b, decide (65 ≤ x) = b := ⟨_, rfl⟩
  obtain ⟨b4, h4⟩ : ∃ b, decide (x ≤ 90) = b := ⟨_, rfl⟩
  have hl : chL x = ((b1 && b2) || (b3 && b4)) := by unfold chL; rw [h1, h2, h3, h4]
  rw [hl]
  clear hl
  cases b1 <;> cases b2 <;> cases b3 <;> cases b4 <;>
  · go_enter Tryd.func35, Tryd.ntmps35
    go_wp2
    go_ret
    exact ⟨rfl, rfl⟩
set_option maxRecDepth 100000 in
set_option maxHeartbeats 1000000 in
theorem rletter_any (x : Int) (w : World) : Calls Tryd.prog 36 #[.int .u8 x] w fun e w' => e = .returned (.bool (chU x)) ∧ w' = w := by
  obtain ⟨b1, h1⟩ : ∃ b, decide (97 ≤ x) = b := ⟨_, rfl⟩
  obtain ⟨b2, h2⟩ : ∃ b, decide (x ≤ 122) = b := ⟨_, rfl⟩
  obtain ⟨b3, h3⟩ : ∃ b, decide (65 ≤ x) = b := ⟨_, rfl⟩
  obtain ⟨b4, h4⟩ : ∃ b, decide (x ≤ 90) = b := ⟨_, rfl⟩
  obtain ⟨b5, h5⟩ : ∃ b, (x == 95) = b := ⟨_, rfl⟩
  have hl : chU x = (((b1 && b2) || (b3 && b4)) || b5) := by
    unfold chU chL
    rw [h1, h2, h3, h4, ← h5]
    rfl
  rw [hl]
  clear hl
  cases b1 <;> cases b2 <;> cases b3 <;> cases b4 <;> cases b5 <;>
  · go_enter Tryd.func36, Tryd.ntmps36
    go_wp2
    go_ret
    exact ⟨rfl, rfl⟩
end Go.Proofs.YtbiifkpelldciaaDoor
