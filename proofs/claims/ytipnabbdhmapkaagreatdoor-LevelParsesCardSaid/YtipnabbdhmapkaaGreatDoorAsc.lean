/- Ascending lists of offsets: plain mathematics. -/
import Derived.Test.YtipnabbdhmapkaaGreatDoorCol
import Derived.Lib.SlKeysI
namespace Go.Proofs.YtipnabbdhmapkaaGreatDoor

def Asc (M : List (Int × Int)) : Prop := M.Pairwise fun p q => p.1 < q.1
theorem mem_insL {x p : Int × Int} {M : List (Int × Int)} : p ∈ insL x M ↔ p = x ∨ p ∈ M := by
  induction M with
  | nil => simp [insL]
  | cons q r ih =>
    unfold insL
    split
    · simp
    · simp only [List.mem_cons, ih]
      constructor
      · rintro (h | h | h)
        · exact .inr (.inl h)
        · exact .inl h
        · exact .inr (.inr h)
      · rintro (h | h | h)
        · exact .inr (.inl h)
        · exact .inl h
        · exact .inr (.inr h)
theorem asc_insL {x : Int × Int} {M : List (Int × Int)} (h : Asc M) (hne : ∀ p ∈ M, p.1 ≠ x.1) : Asc (insL x M) := by
  induction M with
  | nil => simp [insL, Asc]
  | cons q r ih =>
    have h' := List.pairwise_cons.1 h
    unfold insL
    split
    · rename_i hlt
      refine List.pairwise_cons.2 ⟨fun p hp => ?_, h⟩
      rcases List.mem_cons.1 hp with e | hp
      · rw [e]; exact hlt
      · have := h'.1 p hp; omega
    · rename_i hlt
      have hq := hne q (by simp)
      refine List.pairwise_cons.2 ⟨fun p hp => ?_, ih h'.2 fun p hp => hne p (by simp [hp])⟩
      rcases mem_insL.1 hp with e | hp
      · rw [e]; omega
      · exact h'.1 p hp
theorem asc_filter {M : List (Int × Int)} (h : Asc M) (f : Int × Int → Bool) : Asc (M.filter f) := List.Pairwise.sublist List.filter_sublist h
theorem asc_raiseL {M : List (Int × Int)} (h : Asc M) (i p : Int) : Asc (raiseL M i p) := by
  unfold raiseL putL
  refine asc_insL (asc_filter h _) fun q hq => ?_
  have := (List.mem_filter.1 hq).2
  simpa using this
theorem asc_raiseAll {M vs : List (Int × Int)} (h : Asc M) : Asc (raiseAll M vs) := by
  unfold raiseAll
  induction vs generalizing M with
  | nil => exact h
  | cons q r ih => exact ih (asc_raiseL h _ _)
theorem offAt_mem {M : List (Int × Int)} (h : Asc M) {x y : Int} (hm : (x, y) ∈ M) : offAt M x = y := by
  unfold offAt
  induction M with
  | nil => simp at hm
  | cons q r ih =>
    have h' := List.pairwise_cons.1 h
    simp only [List.find?_cons]
    rcases List.mem_cons.1 hm with e | hm
    · subst e; simp
    · have := h'.1 _ hm
      have hne : (q.1 == x) = false := by rw [beq_eq_false_iff_ne]; simp only at this; omega
      rw [hne]
      exact ih h'.2 hm
theorem keys_sorted {M : List (Int × Int)} (h : Asc M) {ss : List Int} (hp : ss.Perm (M.map (·.1))) : ss.mergeSort (fun x y => decide (x ≤ y)) = M.map (·.1) := by
  have h1 : (ss.mergeSort (fun x y => decide (x ≤ y))).Pairwise (fun a b => a ≤ b) := by
    have := List.pairwise_mergeSort (le := fun x y : Int => decide (x ≤ y)) (fun a b c => by simp; omega) (fun a b => by simp; omega) ss
    exact this.imp fun h => by simpa using h
  have h2 : (M.map (·.1)).Pairwise (fun a b => a ≤ b) := by
    rw [List.pairwise_map]
    exact h.imp fun h => Int.le_of_lt h
  have h3 : (ss.mergeSort (fun x y => decide (x ≤ y))).Perm (M.map (·.1)) := (List.mergeSort_perm _ _).trans hp
  exact List.Perm.eq_of_pairwise (fun a b _ _ h1 h2 => Int.le_antisymm h1 h2) h1 h2 h3
theorem intKeys_mapD (M : List (Int × Int)) : Go.intKeys (mapD M) = M.map (·.1) := by
  unfold mapD Go.intKeys
  simp [List.map_map, Function.comp_def, Go.intOf]
end Go.Proofs.YtipnabbdhmapkaaGreatDoor
