/- Two ascending lists of variables, merged: plain mathematics. -/
import Derived.Test.YtipnabbdhmapkaaGreatDoorRow
namespace Go.Proofs.YtipnabbdhmapkaaGreatDoor

/-- The variables of both lists; one that occurs in both gets the greater offset. -/
def mg : List (Int × Int) → List (Int × Int) → List (Int × Int)
  | [], bs => bs
  | a :: us, [] => a :: us
  | a :: us, b :: bs => if a.1 < b.1 then a :: mg us (b :: bs) else if b.1 < a.1 then b :: mg (a :: us) bs else (a.1, if a.2 < b.2 then b.2 else a.2) :: mg us bs
termination_by us bs => us.length + bs.length
theorem mg_nil (bs : List (Int × Int)) : mg [] bs = bs := by unfold mg; rfl
theorem mg_nil_right (us : List (Int × Int)) : mg us [] = us := by cases us <;> (unfold mg; rfl)
theorem mg_cons (a b : Int × Int) (us bs : List (Int × Int)) : mg (a :: us) (b :: bs) = if a.1 < b.1 then a :: mg us (b :: bs) else if b.1 < a.1 then b :: mg (a :: us) bs else (a.1, if a.2 < b.2 then b.2 else a.2) :: mg us bs := by
  rw [mg]
theorem drop_at {vs : List (Int × Int)} {k : Nat} {x y : Int} (h : vs[k]? = some (x, y)) : vs.drop k = (x, y) :: vs.drop (k + 1) := by
  obtain ⟨hl, he⟩ := List.getElem?_eq_some_iff.1 h
  rw [List.drop_eq_getElem_cons hl, he]
section
variable {us bs : List (Int × Int)} {i j : Nat} {x y x' y' : Int}
theorem mg_left_end (ha : us[i]? = some (x, y)) (hj : bs.length ≤ j) : mg (us.drop i) (bs.drop j) = (x, y) :: mg (us.drop (i + 1)) (bs.drop j) := by
  rw [List.drop_eq_nil_of_le hj, mg_nil_right, mg_nil_right, drop_at ha]
theorem mg_left (ha : us[i]? = some (x, y)) (hb : bs[j]? = some (x', y')) (h : x < x') : mg (us.drop i) (bs.drop j) = (x, y) :: mg (us.drop (i + 1)) (bs.drop j) := by
  rw [drop_at ha, drop_at hb, mg_cons]
  simp [h]
theorem mg_right_end (hb : bs[j]? = some (x, y)) (hi : us.length ≤ i) : mg (us.drop i) (bs.drop j) = (x, y) :: mg (us.drop i) (bs.drop (j + 1)) := by
  rw [List.drop_eq_nil_of_le hi, mg_nil, mg_nil, drop_at hb]
theorem mg_right (ha : us[i]? = some (x, y)) (hb : bs[j]? = some (x', y')) (h : x' < x) : mg (us.drop i) (bs.drop j) = (x', y') :: mg (us.drop i) (bs.drop (j + 1)) := by
  rw [drop_at ha, drop_at hb, mg_cons]
  have h2 : ¬ x < x' := by omega
  simp [h, h2]
theorem mg_both (ha : us[i]? = some (x, y)) (hb : bs[j]? = some (x', y')) (h : x = x') : mg (us.drop i) (bs.drop j) = (x, if y < y' then y' else y) :: mg (us.drop (i + 1)) (bs.drop (j + 1)) := by
  rw [drop_at ha, drop_at hb, mg_cons]
  simp [h]
theorem mg_end (hi : us.length ≤ i) (hj : bs.length ≤ j) : mg (us.drop i) (bs.drop j) = [] := by
  rw [List.drop_eq_nil_of_le hi, List.drop_eq_nil_of_le hj, mg_nil]
end
theorem mg_length (us bs : List (Int × Int)) : (mg us bs).length ≤ us.length + bs.length := by
  fun_induction mg us bs <;> simp_all <;> omega
end Go.Proofs.YtipnabbdhmapkaaGreatDoor
