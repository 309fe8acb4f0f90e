/- The law TermNames. -/
import Derived.Test.YtbiifkpelldciaaDoorAwt
import Derived.Test.YtbiifkpelldciaaDoorNmr
namespace Go.Proofs.YtbiifkpelldciaaDoor
open Go.RowKit

set_option maxRecDepth 100000 in
set_option maxHeartbeats 4000000 in
theorem termNames_any (s : ByteArray) (w : World) (hsh : Shapes w) (hw : 0 < w.heap.size) : Calls Tryd.prog 3 #[.string s] w fun e w' => e = .returned (.bool true) ∧ Below w.heap.size w w' := by
  have hA := Lib.hid (awake_any w hsh hw)
  have h1 := Lib.hid (name_any s w)
  have h2 := Lib.hid (rname_any s w)
  clear hsh hw
  by_cases hl : 300 < s.size
  · have d : decide ((300 : Int) < (s.size : Int)) = true := by rw [decide_eq_true_iff]; omega
    go_enter Tryd.func3, Tryd.ntmps3
    go_wp2_with fail
    refine hA.out.mono ?_
    rintro e w1 ⟨rfl, hb⟩
    go_wp2_with fail
    go_ret
    exact ⟨rfl, hb⟩
  · have d : decide ((300 : Int) < (s.size : Int)) = false := by rw [decide_eq_false_iff_not]; omega
    go_enter Tryd.func3, Tryd.ntmps3
    go_wp2_with fail
    refine h1.out.mono ?_
    rintro e w1 ⟨rfl, hw1⟩
    have hw1' := hw1.symm
    subst hw1'
    clear hw1
    go_wp2_with fail
    refine h2.out.mono ?_
    rintro e w1 ⟨rfl, hw1⟩
    have hw1' := hw1.symm
    subst hw1'
    clear hw1 h1 h2
    generalize nameB s = b at *
    have hbb : (b == b) = true := by simp
    go_wp2_with fail
    refine hA.out.mono ?_
    rintro e w1 ⟨rfl, hb⟩
    go_wp2_with fail
    go_ret
    exact ⟨rfl, hb⟩
end Go.Proofs.YtbiifkpelldciaaDoor
