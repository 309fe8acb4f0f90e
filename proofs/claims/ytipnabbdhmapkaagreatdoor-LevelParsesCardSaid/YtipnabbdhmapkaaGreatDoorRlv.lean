/- The reader of the text of a level: the whole. -/
import Derived.Test.YtipnabbdhmapkaaGreatDoorParts
namespace Go.Proofs.YtipnabbdhmapkaaGreatDoor
open Go.RowKit

/-- The parts of a text, if it is one. -/
def lvlOf (s : ByteArray) (k : Nat) : Option (List PV) := match partsOf s k with
  | some (ps, k') => if spEnd s k' = s.size then some ps else none
  | none => none
def LvlPost (s : ByteArray) (r : Option (List PV)) (w : World) (b : Nat) (e : Ending) (w' : World) : Prop :=
  w.grownBy w' (some b) ∧ match r with
  | some ps => ∃ v, e = .returned (.tuple #[v, .bool true]) ∧ Own3 w' w.heap.size v ps ∧ ps.length ≤ s.size
  | none => ∃ v, e = .returned (.tuple #[v, .bool false])

set_option maxRecDepth 100000 in
set_option maxHeartbeats 2000000 in
theorem rlevel_rd (b : Nat) (s : ByteArray) (k0 : Nat) (w : World) (hr : Rd w b s k0) (hk0 : k0 ≤ s.size) (hs : s.size ≤ 65536) :
    Calls Tryz.prog 70 #[.pointer (some ⟨b, 0, none⟩)] w (LvlPost s (lvlOf s k0) w b) := by
  have hlt := hr.lt
  have hp := Lib.hid (parts_rd b s k0 w hr hk0 hs)
  clear hr
  rcases hpo : partsOf s k0 with _ | ⟨ps, k⟩
  · rw [hpo] at hp
    have hn := Lib.hid (show lvlOf s k0 = none by simp [lvlOf, hpo])
    rw [hn.out]
    go_enter Tryz.func70, Tryz.ntmps70
    go_wp2_with fail
    refine hp.out.mono ?_
    rintro e w1 ⟨hg1, v, k, rfl, hr1, hk1⟩
    have HG1 := Lib.hid hg1
    have HSp := Lib.hid (spaces_any b s k w1 hr1 hk1 hs)
    clear hg1 hr1
    go_wp2_with fail
    refine HSp.out.mono ?_
    rintro e w2 ⟨rfl, hr2, hg2⟩
    go_wp2_with fail
    go_quiet (fail)
    go_wp2_with fail
    exact bodyPost_ret (v := .tuple #[v, .bool false]) (by simp [results, Tryz.results70, go_sem]) rfl ⟨grown_drewN (grown_trans HG1.out hg2) _, _, rfl⟩
  · rw [hpo] at hp
    have hcase : (((spEnd s k : Int) == (s.size : Int)) = true ∧ lvlOf s k0 = some ps) ∨ (((spEnd s k : Int) == (s.size : Int)) = false ∧ lvlOf s k0 = none) := by
      by_cases h : spEnd s k = s.size
      · exact .inl ⟨by rw [beq_iff_eq, h], by simp [lvlOf, hpo, h]⟩
      · exact .inr ⟨by rw [beq_eq_false_iff_ne]; intro e; exact h (by omega), by simp [lvlOf, hpo, h]⟩
    rcases hcase with ⟨hd, hn⟩ | ⟨hd, hn⟩
    · rw [hn]
      go_enter Tryz.func70, Tryz.ntmps70
      go_wp2_with fail
      refine hp.out.mono ?_
      rintro e w1 ⟨hg1, v, rfl, hown, hr1, hk1, hpl⟩
      have HG1 := Lib.hid (And.intro hg1 hown)
      have HSp := Lib.hid (spaces_any b s k w1 hr1 hk1 hs)
      clear hg1 hr1 hown
      go_wp2_with fail
      refine HSp.out.mono ?_
      rintro e w2 ⟨rfl, hr2, hg2⟩
      have h0 := hr2.text
      have h1 := hr2.at_
      have HR2 := Lib.hid hg2
      clear hr2 hg2
      go_wp2_with fail
      go_quiet (fail)
      go_wp2_with fail
      exact bodyPost_ret (v := .tuple #[v, .bool true]) (by simp [results, Tryz.results70, go_sem]) rfl ⟨grown_drewN (grown_trans HG1.out.1 HR2.out) _, _, rfl, Own3.kept HG1.out.2 (grown_drewN HR2.out _) hlt, hpl⟩
    · rw [hn]
      go_enter Tryz.func70, Tryz.ntmps70
      go_wp2_with fail
      refine hp.out.mono ?_
      rintro e w1 ⟨hg1, v, rfl, hown, hr1, hk1, hpl⟩
      have HG1 := Lib.hid (And.intro hg1 hown)
      have HSp := Lib.hid (spaces_any b s k w1 hr1 hk1 hs)
      clear hg1 hr1 hown
      go_wp2_with fail
      refine HSp.out.mono ?_
      rintro e w2 ⟨rfl, hr2, hg2⟩
      have h0 := hr2.text
      have h1 := hr2.at_
      have HR2 := Lib.hid hg2
      clear hr2 hg2
      go_wp2_with fail
      go_quiet (fail)
      go_wp2_with fail
      exact bodyPost_ret (v := .tuple #[v, .bool false]) (by simp [results, Tryz.results70, go_sem]) rfl ⟨grown_drewN (grown_trans HG1.out.1 HR2.out) _, _, rfl⟩
end Go.Proofs.YtipnabbdhmapkaaGreatDoor
