/- The map of the offsets. -/
import Derived.Test.YtipnabbdhmapkaaGreatDoorPart
import Derived.Test.YtipnabbdhmapkaaGreatDoorMg
import Derived.Maps.Own
import Derived.Maps.OwnOps
namespace Go.Proofs.YtipnabbdhmapkaaGreatDoor
open Go.RowKit Go.Maps

theorem law3 : Keyed Tryz.prog 3 := int_keyed Tryz.underlying3
theorem zero3 (w : World) : (zeroValue 3).run Tryz.prog w = .ok (.int .i64 0) w := by kernel_rfl

/-- The datum of a map from numbers to numbers. -/
def mapD (M : List (Int × Int)) : DataW Unit := .map (M.map fun p => (.int .i64 p.1, .lit (.int .i64 p.2)))
def offAt (M : List (Int × Int)) (i : Int) : Int := ((M.find? fun p => p.1 == i).map (·.2)).getD 0
def insL (x : Int × Int) : List (Int × Int) → List (Int × Int)
  | [] => [x]
  | y :: r => if x.1 < y.1 then x :: y :: r else y :: insL x r
def putL (M : List (Int × Int)) (i v : Int) : List (Int × Int) := insL (i, v) (M.filter fun p => !(p.1 == i))
def raiseL (M : List (Int × Int)) (i p : Int) : List (Int × Int) := putL M i (max (offAt M i) p)
theorem atKey_mapD (M : List (Int × Int)) (i : Int) : (mapD M).atKey (.int .i64 i) (.lit (.int .i64 0)) = .lit (.int .i64 (offAt M i)) := by
  unfold mapD DataW.atKey offAt
  simp only
  induction M with
  | nil => rfl
  | cons q r ih =>
    simp only [List.map_cons, List.find?_cons, Lit.sameKey]
    by_cases h : q.1 = i
    · simp [h]
    · have h2 : (q.1 == i) = false := by rw [beq_eq_false_iff_ne]; exact h
      simp only [h, and_false, decide_false, h2]
      exact ih
theorem insert_mapD (x : Int × Int) (M : List (Int × Int)) : DataW.insert (H := Unit) (.int .i64 x.1, .lit (.int .i64 x.2)) (M.map fun p => (.int .i64 p.1, .lit (.int .i64 p.2))) = (insL x M).map fun p => (.int .i64 p.1, .lit (.int .i64 p.2)) := by
  induction M with
  | nil => rfl
  | cons q r ih =>
    simp only [List.map_cons, DataW.insert, Lit.before, insL]
    by_cases h : x.1 < q.1
    · simp [h]
    · simp only [h, decide_false, if_false, List.map_cons, ih]
      rfl
theorem put_mapD (M : List (Int × Int)) (i v : Int) : (mapD M).put (.int .i64 i) (.lit (.int .i64 v)) = mapD (putL M i v) := by
  unfold mapD DataW.put putL
  simp only
  rw [← insert_mapD]
  congr 2
  rw [List.filter_map]
  congr 1
  apply List.filter_congr
  intro p _
  simp only [Function.comp, Lit.sameKey]
  by_cases h : p.1 = i <;> simp [h]

theorem wf_max {c p : Int} (hc : (Lit.int .i64 c).wf = true) (hp : (Lit.int .i64 p).wf = true) : (Lit.int .i64 (max c p)).wf = true := by
  rcases Int.le_total c p with h | h
  · rw [Int.max_eq_right h]; exact hp
  · rw [Int.max_eq_left h]; exact hc
/-- Block b is a map that reads as M. -/
def OwnsM (w : World) (b n : Nat) (M : List (Int × Int)) : Prop := w.ownsMap Tryz.prog 3 (plainElem Tryz.prog 3) b n (mapD M)

set_option maxRecDepth 100000 in
theorem raise_any (b n : Nat) (M : List (Int × Int)) (i p : Int) (w : World) (hm : OwnsM w b n M) (hn : n ≤ 10000000) (hi : (Lit.int .i64 i).wf = true) (hp : (Lit.int .i64 p).wf = true) :
    Calls Tryz.prog 82 #[.map (some b), .int .i64 i, .int .i64 p] w fun e w' => e = .returned (.tuple #[]) ∧ OwnsM w' b (n + 1) (raiseL M i p) ∧ w.grownBy w' (some b) := by
  have hkey : keyOf Tryz.prog 3 (.int .i64 i) = some (.int .i64 i) := keyOf_int_mk Tryz.underlying3 hi
  unfold OwnsM at hm
  go_enter Tryz.func82, Tryz.ntmps82
  go_wp2_with (first
      | (at_lookup; refine wpList_lookup_own_int _ rfl _ _ 100 rfl 3 3 .i64 law3 Tryz.underlying100 Tryz.underlying3 (zero3 _) b n _ rfl hm _ _ rfl hkey ?_; intro c hat hwc)
      | (at_mapUpdate; refine wpList_mapUpdate_own _ rfl _ _ _ 100 rfl 3 3 law3 Tryz.underlying100 _ b n _ rfl hm (by unfold maxLen; omega) _ _ _ rfl rfl hkey _ [] (plainElem_int Tryz.underlying3 (wf_max hwc hp)) ?_; intro w1 hown1 hgrow1)
      | go_in)
  go_end0
  rw [atKey_mapD] at hat
  injection hat with hat
  injection hat with _ hat
  subst hat
  rw [put_mapD] at hown1
  exact ⟨rfl, hown1, hgrow1⟩
end Go.Proofs.YtipnabbdhmapkaaGreatDoor
