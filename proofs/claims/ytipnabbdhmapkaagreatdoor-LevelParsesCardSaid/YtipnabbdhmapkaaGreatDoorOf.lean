/- Of and Var, of the program and of the reference. -/
import Derived.Test.YtipnabbdhmapkaaGreatDoorA
import Derived.Test.YtipnabbdhmapkaaGreatDoorW
namespace Go.Proofs.YtipnabbdhmapkaaGreatDoor
open Go.RowKit

/-- The call returns the level (c, vs) and the error number err; what lay before lies as it lay. -/
def GivesLv (c : Int) (vs : List (Int × Int)) (err : Int) (w : World) (e : Ending) (w' : World) : Prop :=
  ∃ A cap, e = .returned (.tuple #[.agg #[.int .i64 c, .slice A vs.length cap], .int .i64 err]) ∧ VA w' w'.heap.size A vs ∧ Below w.heap.size w w'
theorem gives_zero {err : Int} {w w' : World} (hb : Below w.heap.size w w') : GivesLv 0 [] err w (.returned (.tuple #[.agg #[.int .i64 0, .slice none 0 0], .int .i64 err])) w' :=
  ⟨none, 0, rfl, VA.nil, hb⟩

def ofC (n : Int) : Int := if n < 0 then 0 else if 100 < n then 0 else n
def ofE (n : Int) : Int := if n < 0 then 2 else if 100 < n then 15 else 0

set_option maxHeartbeats 400000 in
theorem of_any (n : Int) (w : World) :
    Calls Tryz.prog 15 #[.int .i64 n] w (GivesLv (ofC n) [] (ofE n) w) := by
  by_cases h1 : n < 0
  · rw [show ofC n = 0 by simp [ofC, h1], show ofE n = 2 by simp [ofE, h1]]
    go_enter Tryz.func15, Tryz.ntmps15
    go_wp2
    exact bodyPost_ret (v := .tuple #[.agg #[.int .i64 0, .slice none 0 0], .int .i64 2]) (by simp [results, Tryz.results15, go_sem]) rfl (gives_zero ((Below.refl _ _).alloc (Nat.le_refl _) _))
  · by_cases h2 : 100 < n
    · rw [show ofC n = 0 by simp [ofC, h2], show ofE n = 15 by simp [ofE, h1, h2]]
      go_enter Tryz.func15, Tryz.ntmps15
      go_wp2
      exact bodyPost_ret (v := .tuple #[.agg #[.int .i64 0, .slice none 0 0], .int .i64 15]) (by simp [results, Tryz.results15, go_sem]) rfl (gives_zero ((Below.refl _ _).alloc (Nat.le_refl _) _))
    · rw [show ofC n = n by simp [ofC, h1, h2], show ofE n = 0 by simp [ofE, h1, h2]]
      go_enter Tryz.func15, Tryz.ntmps15
      go_wp2
      exact bodyPost_ret (v := .tuple #[.agg #[.int .i64 n, .slice none 0 0], .int .i64 0]) (by simp [results, Tryz.results15, go_sem]) rfl ⟨none, 0, rfl, VA.nil, (Below.refl _ _).alloc (Nat.le_refl _) _⟩

/-- The call returns the level (c, vs) alone. -/
def GivesL (c : Int) (vs : List (Int × Int)) (w : World) (e : Ending) (w' : World) : Prop :=
  ∃ A cap, e = .returned (.agg #[.int .i64 c, .slice A vs.length cap]) ∧ VA w' w'.heap.size A vs ∧ Below w.heap.size w w'

set_option maxHeartbeats 400000 in
theorem number_any (n : Int) (w : World) : Calls Tryz.prog 47 #[.int .i64 n] w fun e w' => e = .returned (.agg #[.int .i64 n, .slice none 0 0]) ∧ Below w.heap.size w w' := by
  go_enter Tryz.func47, Tryz.ntmps47
  go_wp2
  exact bodyPost_ret (v := .agg #[.int .i64 n, .slice none 0 0]) (by simp [results, Tryz.results47, go_sem]) rfl ⟨rfl, (Below.refl _ _).alloc (Nat.le_refl _) _⟩

set_option maxHeartbeats 400000 in
theorem rof_any (n : Int) (w : World) :
    Calls Tryz.prog 16 #[.int .i64 n] w (GivesLv (ofC n) [] (ofE n) w) := by
  by_cases h1 : n < 0
  · rw [show ofC n = 0 by simp [ofC, h1], show ofE n = 2 by simp [ofE, h1]]
    go_enter Tryz.func16, Tryz.ntmps16
    go_wp2
    exact bodyPost_ret (v := .tuple #[.agg #[.int .i64 0, .slice none 0 0], .int .i64 2]) (by simp [results, Tryz.results16, go_sem]) rfl (gives_zero ((Below.refl _ _).alloc (Nat.le_refl _) _))
  · by_cases h2 : 100 < n
    · rw [show ofC n = 0 by simp [ofC, h2], show ofE n = 15 by simp [ofE, h1, h2]]
      go_enter Tryz.func16, Tryz.ntmps16
      go_wp2
      exact bodyPost_ret (v := .tuple #[.agg #[.int .i64 0, .slice none 0 0], .int .i64 15]) (by simp [results, Tryz.results16, go_sem]) rfl (gives_zero ((Below.refl _ _).alloc (Nat.le_refl _) _))
    · rw [show ofC n = n by simp [ofC, h1, h2], show ofE n = 0 by simp [ofE, h1, h2]]
      go_enter Tryz.func16, Tryz.ntmps16
      go_wp2_with fail
      refine (number_any _ _).mono ?_
      rintro e w' ⟨rfl, hb⟩
      have hc : w'.cell? ⟨w.heap.size, 0, none⟩ = some (.int .i64 0) := (hb.cell (p := ⟨w.heap.size, 0, none⟩) (by simp)).trans (by go_simp)
      have hc1 : w'.cell? ⟨w.heap.size, 1, none⟩ = some (.slice none 0 0) := (hb.cell (p := ⟨w.heap.size, 1, none⟩) (by simp)).trans (by go_simp)
      have hf : w'.frozen? ⟨w.heap.size, 0, none⟩ = false := (hb.frozen (p := ⟨w.heap.size, 0, none⟩) (by simp)).trans (by go_simp)
      have hf1 : w'.frozen? ⟨w.heap.size, 1, none⟩ = false := (hb.frozen (p := ⟨w.heap.size, 1, none⟩) (by simp)).trans (by go_simp)
      go_wp2
      exact bodyPost_ret (v := .tuple #[.agg #[.int .i64 n, .slice none 0 0], .int .i64 0]) (by simp [results, Tryz.results16, go_sem, hc, hc1]) rfl ⟨none, 0, rfl, VA.nil, ((((Below.refl _ _).alloc (Nat.le_refl _) _).trans (hb.mono (by simp))).setCell (Nat.le_refl _) _).setCell (Nat.le_refl _) _⟩

def varOk (i p : Int) : Bool := (decide (-65536 ≤ i) && decide (i ≤ 7)) && (decide (0 ≤ p) && decide (p ≤ 100))
def varV (i p : Int) : List (Int × Int) := if varOk i p = true then [(i, p)] else []
def varE (i p : Int) : Int := if (decide (-65536 ≤ i) && decide (i ≤ 7)) && decide (0 ≤ p) = true then (if p ≤ 100 then 0 else 15) else 2
theorem VA.one {w : World} {b B : Nat} {x y : Int} (h0 : w.cell? ⟨b, 0, none⟩ = some (.int .i64 x)) (h1 : w.cell? ⟨b, 1, none⟩ = some (.int .i64 y)) (hb : b < B) : VA w B (some ⟨b, 0, none⟩) [(x, y)] :=
  ⟨by simp, fun _ => ⟨b, 0, rfl, hb, fun j x' y' hj => by
    rcases j with _ | j
    · simp at hj; obtain ⟨rfl, rfl⟩ := hj; exact ⟨by simpa using h0, by simpa using h1⟩
    · simp at hj⟩⟩

set_option maxHeartbeats 1000000 in
theorem var_any (i p : Int) (w : World) :
    Calls Tryz.prog 17 #[.int .i64 i, .int .i64 p] w (GivesLv 0 (varV i p) (varE i p) w) := by
  by_cases h1 : -65536 ≤ i ∧ i ≤ 7
  · obtain ⟨h1, h2⟩ := h1
    by_cases h3 : 0 ≤ p
    · by_cases h4 : p ≤ 100
      · rw [show varV i p = [(i, p)] by simp [varV, varOk, h1, h2, h3, h4], show varE i p = 0 by simp [varE, h1, h2, h3, h4]]
        go_enter Tryz.func17, Tryz.ntmps17
        go_wp2_with (go_at_call 48; refine (inRange_yes _ _ _ _ (by omega) (by omega)).mono ?_; rintro e w' ⟨rfl, rfl⟩)
        exact bodyPost_ret (v := .tuple #[.agg #[.int .i64 0, .slice (some ⟨w.heap.size + 1, 0, none⟩) 1 1], .int .i64 0]) (by simp [results, Tryz.results17, go_sem]) rfl ⟨some ⟨w.heap.size + 1, 0, none⟩, 1, rfl, VA.one (by go_simp) (by go_simp) (by simp), ((Below.refl _ _).alloc (Nat.le_refl _) _).alloc (by simp) _⟩
      · rw [show varV i p = [] by simp [varV, varOk, h4], show varE i p = 15 by simp [varE, h1, h2, h3, h4]]
        go_enter Tryz.func17, Tryz.ntmps17
        go_wp2_with (go_at_call 48; refine (inRange_yes _ _ _ _ (by omega) (by omega)).mono ?_; rintro e w' ⟨rfl, rfl⟩)
        exact bodyPost_ret (v := .tuple #[.agg #[.int .i64 0, .slice none 0 0], .int .i64 15]) (by simp [results, Tryz.results17, go_sem]) rfl (gives_zero ((Below.refl _ _).alloc (Nat.le_refl _) _))
    · rw [show varV i p = [] by simp [varV, varOk, h3], show varE i p = 2 by simp [varE, h3]]
      go_enter Tryz.func17, Tryz.ntmps17
      go_wp2_with (go_at_call 48; refine (inRange_yes _ _ _ _ (by omega) (by omega)).mono ?_; rintro e w' ⟨rfl, rfl⟩)
      exact bodyPost_ret (v := .tuple #[.agg #[.int .i64 0, .slice none 0 0], .int .i64 2]) (by simp [results, Tryz.results17, go_sem]) rfl (gives_zero ((Below.refl _ _).alloc (Nat.le_refl _) _))
  · rw [show varV i p = [] by rcases Decidable.not_and_iff_or_not.1 h1 with h | h <;> simp [varV, varOk, h], show varE i p = 2 by rcases Decidable.not_and_iff_or_not.1 h1 with h | h <;> simp [varE, h]]
    go_enter Tryz.func17, Tryz.ntmps17
    go_wp2_with (go_at_call 48; refine (inRange_no _ _ _ _ h1).mono ?_; rintro e w' ⟨rfl, rfl⟩)
    exact bodyPost_ret (v := .tuple #[.agg #[.int .i64 0, .slice none 0 0], .int .i64 2]) (by simp [results, Tryz.results17, go_sem]) rfl (gives_zero ((Below.refl _ _).alloc (Nat.le_refl _) _))
set_option maxHeartbeats 1000000 in
theorem rvar_any (i p : Int) (w : World) :
    Calls Tryz.prog 18 #[.int .i64 i, .int .i64 p] w (GivesLv 0 (varV i p) (varE i p) w) := by
  by_cases h1 : -65536 ≤ i ∧ i ≤ 7
  · obtain ⟨h1, h2⟩ := h1
    by_cases h3 : 0 ≤ p
    · by_cases h4 : p ≤ 100
      · rw [show varV i p = [(i, p)] by simp [varV, varOk, h1, h2, h3, h4], show varE i p = 0 by simp [varE, h1, h2, h3, h4]]
        go_enter Tryz.func18, Tryz.ntmps18
        go_wp2
        exact bodyPost_ret (v := .tuple #[.agg #[.int .i64 0, .slice (some ⟨w.heap.size + 1, 0, none⟩) 1 1], .int .i64 0]) (by simp [results, Tryz.results18, go_sem]) rfl ⟨some ⟨w.heap.size + 1, 0, none⟩, 1, rfl, VA.one (by go_simp) (by go_simp) (by simp), ((Below.refl _ _).alloc (Nat.le_refl _) _).alloc (by simp) _⟩
      · rw [show varV i p = [] by simp [varV, varOk, h4], show varE i p = 15 by simp [varE, h1, h2, h3, h4]]
        go_enter Tryz.func18, Tryz.ntmps18
        go_wp2
        exact bodyPost_ret (v := .tuple #[.agg #[.int .i64 0, .slice none 0 0], .int .i64 15]) (by simp [results, Tryz.results18, go_sem]) rfl (gives_zero ((Below.refl _ _).alloc (Nat.le_refl _) _))
    · rw [show varV i p = [] by simp [varV, varOk, h3], show varE i p = 2 by simp [varE, h3]]
      go_enter Tryz.func18, Tryz.ntmps18
      go_wp2
      exact bodyPost_ret (v := .tuple #[.agg #[.int .i64 0, .slice none 0 0], .int .i64 2]) (by simp [results, Tryz.results18, go_sem]) rfl (gives_zero ((Below.refl _ _).alloc (Nat.le_refl _) _))
  · rw [show varV i p = [] by rcases Decidable.not_and_iff_or_not.1 h1 with h | h <;> simp [varV, varOk, h], show varE i p = 2 by rcases Decidable.not_and_iff_or_not.1 h1 with h | h <;> simp [varE, h]]
    go_enter Tryz.func18, Tryz.ntmps18
    go_wp2
    all_goals exact bodyPost_ret (v := .tuple #[.agg #[.int .i64 0, .slice none 0 0], .int .i64 2]) (by simp [results, Tryz.results18, go_sem]) rfl (gives_zero ((Below.refl _ _).alloc (Nat.le_refl _) _))
end Go.Proofs.YtipnabbdhmapkaaGreatDoor
