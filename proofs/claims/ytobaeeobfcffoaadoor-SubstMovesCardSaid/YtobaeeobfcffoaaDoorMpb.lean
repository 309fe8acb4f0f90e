/- A map from numbers to true, as an ascending list of its keys. -/
import Derived.Test.YtobaeeobfcffoaaDoorOcc
import Derived.Maps.Own
import Derived.Maps.OwnOps
import Derived.Maps.OwnIn
import Derived.Lib.SlKeysI
namespace Go.Proofs.YtobaeeobfcffoaaDoor
open Go.RowKit Go.Maps

/-- The datum of the map. -/
def mapB (S : List Int) : DataW Unit := .map (S.map fun i => (.int .i64 i, .lit (.bool true)))
def insO (x : Int) : List Int → List Int
  | [] => [x]
  | y :: r => if x < y then x :: y :: r else y :: insO x r
def insS (x : Int) (S : List Int) : List Int := insO x (S.filter fun y => !(y == x))
theorem insert_mapB (x : Int) (S : List Int) : DataW.insert (H := Unit) (.int .i64 x, .lit (.bool true)) (S.map fun i => (.int .i64 i, .lit (.bool true))) = (insO x S).map fun i => (.int .i64 i, .lit (.bool true)) := by
  induction S with
  | nil => rfl
  | cons q r ih =>
    simp only [List.map_cons, DataW.insert, Lit.before, insO]
    by_cases h : x < q
    · simp [h]
    · simp only [h, decide_false, if_false, List.map_cons, ih]
      rfl
theorem put_mapB (S : List Int) (i : Int) : (mapB S).put (.int .i64 i) (.lit (.bool true)) = mapB (insS i S) := by
  unfold mapB DataW.put insS
  simp only
  rw [← insert_mapB]
  congr 2
  rw [List.filter_map]
  congr 1
  apply List.filter_congr
  intro p _
  simp only [Function.comp, Lit.sameKey]
  by_cases h : p = i <;> simp [h]
theorem intKeys_mapB (S : List Int) : Go.intKeys (mapB S) = S := by
  unfold mapB Go.intKeys
  simp [List.map_map, Function.comp_def, Go.intOf]
def AscI (S : List Int) : Prop := S.Pairwise fun p q => p < q
theorem mem_insO {x p : Int} {S : List Int} : p ∈ insO x S ↔ p = x ∨ p ∈ S := by
  induction S with
  | nil => simp [insO]
  | cons q r ih =>
    unfold insO
    split
    · simp
    · simp only [List.mem_cons, ih]
      constructor
      · rintro (h | h | h)
        · exact .inr (.inl h)
        · exact .inl h
        · exact .inr (.inr h)
      · rintro (h | h | h)
        · exact .inr (.inl h)
        · exact .inl h
        · exact .inr (.inr h)
theorem asc_insO {x : Int} {S : List Int} (h : AscI S) (hne : ∀ p ∈ S, p ≠ x) : AscI (insO x S) := by
  induction S with
  | nil => simp [insO, AscI]
  | cons q r ih =>
    have h' := List.pairwise_cons.1 h
    unfold insO
    split
    · rename_i hlt
      refine List.pairwise_cons.2 ⟨fun p hp => ?_, h⟩
      rcases List.mem_cons.1 hp with e | hp
      · rw [e]; exact hlt
      · have := h'.1 p hp; omega
    · rename_i hlt
      have hq := hne q (by simp)
      refine List.pairwise_cons.2 ⟨fun p hp => ?_, ih h'.2 fun p hp => hne p (by simp [hp])⟩
      rcases mem_insO.1 hp with e | hp
      · rw [e]; omega
      · exact h'.1 p hp
theorem mem_insS {x p : Int} {S : List Int} : p ∈ insS x S ↔ p = x ∨ p ∈ S := by
  unfold insS
  rw [mem_insO, List.mem_filter]
  by_cases h : p = x <;> simp [h]
theorem asc_insS {x : Int} {S : List Int} (h : AscI S) : AscI (insS x S) :=
  asc_insO (List.Pairwise.sublist List.filter_sublist h) (fun p hp => by simpa using (List.mem_filter.1 hp).2)
theorem insO_length (x : Int) (S : List Int) : (insO x S).length = S.length + 1 := by
  induction S with
  | nil => rfl
  | cons q r ih => unfold insO; split <;> simp [ih]
theorem insS_length (x : Int) (S : List Int) : (insS x S).length ≤ S.length + 1 := by
  unfold insS
  rw [insO_length]
  have := List.length_filter_le (fun y => !(y == x)) S
  omega
theorem sorted_asc {S : List Int} (h : AscI S) {ss : List Int} (hp : ss.Perm S) : ss.mergeSort (fun x y => decide (x ≤ y)) = S := by
  have h1 : (ss.mergeSort (fun x y => decide (x ≤ y))).Pairwise (fun a b => a ≤ b) := by
    have := List.pairwise_mergeSort (le := fun x y : Int => decide (x ≤ y)) (fun a b c => by simp; omega) (fun a b => by simp; omega) ss
    exact this.imp fun h => by simpa using h
  have h2 : S.Pairwise (fun a b => a ≤ b) := h.imp fun h => Int.le_of_lt h
  exact List.Perm.eq_of_pairwise (fun a b _ _ h1 h2 => Int.le_antisymm h1 h2) h1 h2 ((List.mergeSort_perm _ _).trans hp)
/-- Block b is a map that reads as S. -/
def OwnsB (w : World) (b n : Nat) (S : List Int) : Prop := w.ownsMap Tryd.prog 3 (plainElem Tryd.prog 4) b n (mapB S)
theorem wrap_wf (x : Int) : (Lit.int .i64 (wrap64 x)).wf = true := by
  have hm : IntKind.i64.min = -9223372036854775808 := by decide
  unfold wrap64
  simp [Lit.wf]
  omega
/-- The free variables of nodes, ascending. -/
def stepF (S : List Int) (n : Nd) : List Int := match n.t with | .mk k i _ _ _ => if isFree k i n.b = true then insS (freeV k i n.b) S else S
def freeS (l : List Nd) : List Int := l.foldl stepF []
theorem freeS_snoc (l : List Nd) (n : Nd) : freeS (l ++ [n]) = stepF (freeS l) n := by unfold freeS; rw [List.foldl_append]; rfl
theorem stepF_asc {S : List Int} (n : Nd) (h : AscI S) : AscI (stepF S n) := by
  unfold stepF
  split
  split
  · exact asc_insS h
  · exact h
theorem stepF_length (S : List Int) (n : Nd) : (stepF S n).length ≤ S.length + 1 := by
  unfold stepF
  split
  split
  · exact insS_length _ _
  · omega
theorem foldl_free (l : List Nd) : ∀ (S : List Int), AscI S → AscI (l.foldl stepF S) ∧ (l.foldl stepF S).length ≤ S.length + l.length := by
  induction l with
  | nil => intro S h; exact ⟨h, by simp⟩
  | cons n r ih =>
    intro S h
    rw [List.foldl_cons, List.length_cons]
    have h1 := ih (stepF S n) (stepF_asc n h)
    have h2 := stepF_length S n
    exact ⟨h1.1, by omega⟩
theorem freeS_asc (l : List Nd) : AscI (freeS l) := (foldl_free l [] List.Pairwise.nil).1
theorem freeS_length (l : List Nd) : (freeS l).length ≤ l.length := by have := (foldl_free l [] List.Pairwise.nil).2; simpa [freeS] using this
end Go.Proofs.YtobaeeobfcffoaaDoor
