/- The law TermMeasures. -/
import Derived.Test.YtbiifkpelldciaaDoorOne
namespace Go.Proofs.YtbiifkpelldciaaDoor
open Go.RowKit

set_option maxRecDepth 100000 in
set_option maxHeartbeats 4000000 in
theorem termMeasures_any (t : Tm) (v : Value) (w : World) (hv : TmV w w.heap.size t v) (hsh : Shapes w) (hw : 0 < w.heap.size) : Calls Tryd.prog 6 #[v] w fun e w' => e = .returned (.bool true) ∧ Below w.heap.size w w' := by
  have hv0 := hv
  obtain ⟨k, i, nm, AL, nl, cl, AK, ck, rfl, _, _⟩ := hv.open_
  have T0 := Lib.hid (OneT.start hv hsh hw)
  clear hv hsh hw hv0
  obtain ⟨x0, x1, x2, x3, x4, _, _, _, _, _, _⟩ := T0.out
  go_enter Tryd.func6, Tryd.ntmps6
  go_wp2_with fail
  have hl := T0.out.listed
  simp only [World.size_alloc] at hl
  refine (few_any (szL [t] + 1) [t] (some ⟨w.heap.size + 1, 0, none⟩) 1 (w.heap.size + 1 + 1) _ (by omega) (by simp) hl (by simp)).mono ?_
  rintro e w2 ⟨b, rfl, hb, hf⟩
  have T1 := Lib.hid ((T0.out.alloc _).next hb)
  clear x0 x1 x2 x3 x4 hb hl T0
  cases b with
  | false =>
    go_wp2_with fail
    refine (awake_any _ T1.out.sh (by have := T1.out.size; have := T1.out.pos; omega)).mono ?_
    rintro e w3 ⟨rfl, hb3⟩
    have T2 := Lib.hid (T1.out.next hb3)
    clear hb3
    go_wp2_with fail
    go_ret
    exact ⟨rfl, T2.out.below⟩
  | true =>
    have hsz := (hf rfl).sz
    rw [szL, szL, Nat.add_zero] at hsz
    have hdp := dpT_le t
    obtain ⟨x0, x1, x2, x3, x4, _, _, _, _, _, _⟩ := T1.out
    clear hf
    have q1 : ((szT t : Int) == (szT t : Int)) = true := by simp
    have q2 : ((dpT t : Int) == (dpT t : Int)) = true := by simp
    have HB := Lib.hid T1.out.drew
    clear T1
    go_wp2_with fail
    go_region_held3 (fun w' => w'.cell? ⟨w.heap.size, 0, none⟩ = some (.int .i64 k) ∧ w'.cell? ⟨w.heap.size, 1, none⟩ = some (.int .i64 i) ∧ w'.cell? ⟨w.heap.size, 2, none⟩ = some (.string nm) ∧ w'.cell? ⟨w.heap.size, 3, none⟩ = some (.slice AL nl cl) ∧ w'.cell? ⟨w.heap.size, 4, none⟩ = some (.slice AK t.kids.length ck))
      (first | exact ⟨HB.out.x0, HB.out.x1, HB.out.x2, HB.out.x3, HB.out.x4⟩)
      (first
      | (go_at_call 19; refine (size_any t _ w.heap.size _ HB.out.tm HB.out.size HB.out.pos HB.out.sh.s4 (by omega)).mono ?_; rintro e w7 ⟨rfl, hb7⟩; have HB := Lib.hid (HB.out.next hb7); clear hb7)
      | (go_at_call 20; refine (rsize_any (szT t) t _ w.heap.size _ (Nat.le_refl _) (by omega) HB.out.tm HB.out.size).mono ?_; rintro e w7 ⟨rfl, hb7⟩; have HB := Lib.hid (HB.out.next hb7); clear hb7)
      | (go_at_call 21; refine (depth_any t _ w.heap.size _ HB.out.tm HB.out.size HB.out.pos HB.out.sh.s4 (by omega)).mono ?_; rintro e w7 ⟨rfl, hb7⟩; have HB := Lib.hid (HB.out.next hb7); clear hb7)
      | (go_at_call 22; refine (rdepth_any (szT t) t _ w.heap.size _ (Nat.le_refl _) (by omega) HB.out.tm HB.out.size).mono ?_; rintro e w7 ⟨rfl, hb7⟩; have HB := Lib.hid (HB.out.next hb7); clear hb7)
      | (go_at_call 11; refine (awake_any _ HB.out.sh (by have := HB.out.size; have := HB.out.pos; omega)).mono ?_; rintro e w7 ⟨rfl, hb7⟩; have HB := Lib.hid (HB.out.next hb7); clear hb7))
    all_goals
      go_wp2
      go_ret
      exact ⟨rfl, HB.out.below⟩
end Go.Proofs.YtbiifkpelldciaaDoor
