/- Pure: the values of a level, and that at most is at most for all values. -/
import Derived.Test.YtipnabbdhmapkaaGreatDoorUnq
namespace Go.Proofs.YtipnabbdhmapkaaGreatDoor
open Go.RowKit

/-- The greatest of n and the variables' values; -1 where an index has no value. -/
def evL (ps : List Int) : List (Int × Int) → Int → Int
  | [], n => n
  | p :: r, n => if 0 ≤ p.1 ∧ p.1 < ps.length then evL ps r (max n (ps.getD p.1.toNat 0 + p.2)) else -1
/-- The value of a level. -/
def valB (ps : List Int) (c : Int) (vs : List (Int × Int)) : Int := if vldB c vs = true then evL ps vs c else -1

theorem evL_bad {ps : List Int} : ∀ {vs : List (Int × Int)} {n : Int} {p : Int × Int}, p ∈ vs → ¬ (0 ≤ p.1 ∧ p.1 < ps.length) → evL ps vs n = -1
  | [], _, _, h, _ => absurd h (by simp)
  | q :: r, n, p, h, hb => by
    rw [evL]
    split
    · rcases List.mem_cons.1 h with rfl | h
      · contradiction
      · exact evL_bad h hb
    · rfl
theorem evL_in {ps : List Int} {vs : List (Int × Int)} {n : Int} (h : 0 ≤ evL ps vs n) : ∀ p ∈ vs, 0 ≤ p.1 ∧ p.1 < ps.length := fun p hp => by
  by_cases hb : 0 ≤ p.1 ∧ p.1 < ps.length
  · exact hb
  · rw [evL_bad hp hb] at h
    omega
theorem le_evL {ps : List Int} (k : Int) : ∀ {vs : List (Int × Int)} {n : Int}, (∀ p ∈ vs, 0 ≤ p.1 ∧ p.1 < ps.length) → (k ≤ evL ps vs n ↔ k ≤ n ∨ ∃ p ∈ vs, k ≤ ps.getD p.1.toNat 0 + p.2)
  | [], n, _ => by simp [evL]
  | q :: r, n, h => by
    rw [evL, if_pos (h q List.mem_cons_self), le_evL k fun p hp => h p (List.mem_cons_of_mem _ hp)]
    constructor
    · rintro (h1 | ⟨p, hp, h1⟩)
      · by_cases h2 : k ≤ n
        · exact .inl h2
        · exact .inr ⟨q, List.mem_cons_self, by omega⟩
      · exact .inr ⟨p, List.mem_cons_of_mem _ hp, h1⟩
    · rintro (h1 | ⟨p, hp, h1⟩)
      · exact .inl (by omega)
      · rcases List.mem_cons.1 hp with rfl | hp
        · exact .inl (by omega)
        · exact .inr ⟨p, hp, h1⟩

/-- The values of the three parameters in round k. -/
def sg (k : Nat) : List Int := [500 * (k % 2 : Nat), 500 * (k / 2 % 2 : Nat), 500 * (k / 4 : Nat)]
/-- In none of the first k rounds is the first level's value greater. -/
def belowTo (c1 : Int) (v1 : List (Int × Int)) (c2 : Int) (v2 : List (Int × Int)) : Nat → Bool
  | 0 => true
  | k + 1 => belowTo c1 v1 c2 v2 k && decide (valB (sg k) c1 v1 ≤ valB (sg k) c2 v2)
theorem belowTo_iff {c1 : Int} {v1 : List (Int × Int)} {c2 : Int} {v2 : List (Int × Int)} : ∀ k, belowTo c1 v1 c2 v2 k = true ↔ ∀ j, j < k → valB (sg j) c1 v1 ≤ valB (sg j) c2 v2
  | 0 => by simp [belowTo]
  | k + 1 => by
    rw [belowTo, Bool.and_eq_true, belowTo_iff k, decide_eq_true_eq]
    constructor
    · rintro ⟨h1, h2⟩ j hj
      rcases Nat.lt_or_ge j k with h | h
      · exact h1 j h
      · obtain rfl : j = k := by omega
        exact h2
    · exact fun h => ⟨fun j hj => h j (by omega), h k (by omega)⟩
theorem valB_vld {ps : List Int} {c : Int} {vs : List (Int × Int)} (h : 0 ≤ valB ps c vs) : vldB c vs = true ∧ ∀ p ∈ vs, 0 ≤ p.1 ∧ p.1 < ps.length := by
  unfold valB at h
  split at h
  · exact ⟨by assumption, evL_in h⟩
  · omega
theorem sg_nonneg (k : Nat) (i : Nat) : 0 ≤ (sg k).getD i 0 := by
  rcases i with _ | _ | _ | i <;> simp [sg] <;> omega
theorem sg_len (k : Nat) : (sg k).length = 3 := rfl
theorem vld_le {c : Int} {vs : List (Int × Int)} (h : vldB c vs = true) : (0 ≤ c ∧ c ≤ 100) ∧ ∀ p ∈ vs, 0 ≤ p.2 ∧ p.2 ≤ 100 := by
  have hp := h
  simp only [vldB, Bool.and_eq_true, decide_eq_true_eq] at hp
  refine ⟨hp.1, fun p hm => ?_⟩
  obtain ⟨j, hj, rfl⟩ := List.mem_iff_getElem.1 hm
  have := ((okB_iff vs).1 hp.2.1 j _ _ hj (List.getElem?_eq_getElem hj)).1
  exact this.2
theorem leq_below {c1 : Int} {v1 : List (Int × Int)} {c2 : Int} {v2 : List (Int × Int)} (h1 : 0 ≤ valB [0, 0, 0] c1 v1) (h2 : 0 ≤ valB [0, 0, 0] c2 v2) : leqB c1 v1 c2 v2 = belowTo c1 v1 c2 v2 8 := by
  obtain ⟨g1, i1⟩ := valB_vld h1
  obtain ⟨g2, i2⟩ := valB_vld h2
  have j1 : ∀ k, ∀ p ∈ v1, 0 ≤ p.1 ∧ p.1 < ((sg k).length : Int) := fun k => i1
  have j2 : ∀ k, ∀ p ∈ v2, 0 ≤ p.1 ∧ p.1 < ((sg k).length : Int) := fun k => i2
  obtain ⟨b1, b1v⟩ := vld_le g1
  obtain ⟨b2, b2v⟩ := vld_le g2
  rw [Bool.eq_iff_iff, leq_iff g1 g2, belowTo_iff]
  constructor
  · rintro ⟨hc, hv⟩ j _
    simp only [valB, g1, g2, if_true]
    refine (le_evL _ (j2 j)).2 ?_
    rcases (le_evL _ (j1 j)).1 (Int.le_refl (evL (sg j) v1 c1)) with h | ⟨p, hp, h⟩
    · rcases hc with hc | ⟨q, hq, hc⟩
      · exact .inl (by omega)
      · have := sg_nonneg j q.1.toNat
        exact .inr ⟨q, hq, by omega⟩
    · obtain ⟨q, hq, e, hle⟩ := hv p hp
      exact .inr ⟨q, hq, by rw [e]; omega⟩
  · intro h
    have hh : ∀ j, j < 8 → evL (sg j) v1 c1 ≤ evL (sg j) v2 c2 := fun j hj => by
      have := h j hj
      simpa only [valB, g1, g2, if_true] using this
    constructor
    · have h0 := hh 0 (by omega)
      have h3 := (le_evL c1 (j1 0) (n := c1)).2 (.inl (Int.le_refl c1))
      rcases (le_evL c1 (j2 0) (n := c2)).1 (by omega) with h4 | ⟨q, hq, h4⟩
      · exact .inl h4
      · refine .inr ⟨q, hq, ?_⟩
        have : (sg 0).getD q.1.toNat 0 = 0 := by
          have := i2 q hq
          rcases q.1.toNat with _ | _ | _ | i <;> simp [sg]
        omega
    · intro p hp
      have hpi := i1 p hp
      simp only [List.length_cons, List.length_nil] at hpi
      have key : ∀ j, j < 8 → (sg j).getD p.1.toNat 0 = 500 → (∀ i : Nat, i < 3 → i ≠ p.1.toNat → (sg j).getD i 0 = 0) → ∃ q ∈ v2, q.1 = p.1 ∧ p.2 ≤ q.2 := by
        intro j hj e e0
        have h3 := (le_evL (500 + p.2) (j1 j) (n := c1)).2 (.inr ⟨p, hp, by omega⟩)
        have h4 := hh j hj
        have hp0 := b1v p hp
        rcases (le_evL (500 + p.2) (j2 j) (n := c2)).1 (by omega) with h5 | ⟨q, hq, h5⟩
        · omega
        · have hq0 := b2v q hq
          have hqi := i2 q hq
          simp only [List.length_cons, List.length_nil] at hqi
          by_cases hqp : q.1.toNat = p.1.toNat
          · exact ⟨q, hq, by omega, by rw [hqp, e] at h5; omega⟩
          · rw [e0 q.1.toNat (by omega) hqp] at h5
            omega
      have hc : p.1.toNat = 0 ∨ p.1.toNat = 1 ∨ p.1.toNat = 2 := by omega
      rcases hc with hc | hc | hc
      · exact key 1 (by omega) (by rw [hc]; decide) (by rw [hc]; decide)
      · exact key 2 (by omega) (by rw [hc]; decide) (by rw [hc]; decide)
      · exact key 4 (by omega) (by rw [hc]; decide) (by rw [hc]; decide)
theorem evL_drop {ps : List Int} {vs : List (Int × Int)} {k : Nat} {x y n : Int} (h : vs[k]? = some (x, y)) : evL ps (vs.drop k) n = if 0 ≤ x ∧ x < ps.length then evL ps (vs.drop (k + 1)) (max n (ps.getD x.toNat 0 + y)) else -1 := by
  obtain ⟨hk, he⟩ := List.getElem?_eq_some_iff.1 h
  rw [List.drop_eq_getElem_cons hk, he, evL]
end Go.Proofs.YtipnabbdhmapkaaGreatDoor
