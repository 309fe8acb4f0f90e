/- Params of the program: one more than the greatest parameter. -/
import Derived.Test.YtbiifkpelldciaaDoorVrf
namespace Go.Proofs.YtbiifkpelldciaaDoor
open Go.RowKit

/-- One more than the greatest parameter of a valid level; 0 without one. -/
def parI (c : Int) (vs : List (Int × Int)) : Int := if vldB c vs = true then (match vs[vs.length - 1]? with | none => 0 | some p => max 0 (p.1 + 1)) else 0
theorem parI_no {c : Int} {vs : List (Int × Int)} (h : vldB c vs = false) : parI c vs = 0 := by simp [parI, h]
theorem parI_nil {c : Int} {vs : List (Int × Int)} (h : vs.length = 0) : parI c vs = 0 := by
  have : vs[vs.length - 1]? = none := List.getElem?_eq_none (by omega)
  unfold parI
  rw [this]
  simp
theorem parI_yes {c : Int} {vs : List (Int × Int)} {x y : Int} (h : vldB c vs = true) (hg : vs[vs.length - 1]? = some (x, y)) : parI c vs = max 0 (x + 1) := by simp [parI, h, hg]
theorem vld_idx {c : Int} {vs : List (Int × Int)} (h : vldB c vs = true) : ∀ p ∈ vs, -65536 ≤ p.1 ∧ p.1 ≤ 7 := by
  have hp := h
  simp only [vldB, Bool.and_eq_true, decide_eq_true_eq] at hp
  intro p hm
  obtain ⟨j, hj, rfl⟩ := List.mem_iff_getElem.1 hm
  exact ((okB_iff vs).1 hp.2.1 j _ _ hj (List.getElem?_eq_getElem hj)).1.1

set_option maxRecDepth 100000 in
set_option maxHeartbeats 1000000 in
theorem params_any (c : Int) (A : Option Addr) (cap : Nat) (vs : List (Int × Int)) (B : Nat) (w : World) (hv : VA w B A vs) (hB : B ≤ w.heap.size) :
    Calls Tryd.prog 78 #[.agg #[.int .i64 c, .slice A vs.length cap]] w fun e w' => e = .returned (.int .i64 (parI c vs)) ∧ Below w.heap.size w w' := by
  have hlen := hv.len
  go_enter Tryd.func78, Tryd.ntmps78
  go_wp2_with fail
  refine (valid_any c A cap vs B _ (hv.alloc hB _) (by simp; omega)).mono ?_
  rintro e w1 ⟨rfl, hb1⟩
  have l1 : w1.cell? ⟨w.heap.size, 1, none⟩ = some (.slice A vs.length cap) := (hb1.cell (p := ⟨w.heap.size, 1, none⟩) (by simp)).trans (by go_simp)
  have hf1 : Below w.heap.size w w1 := ((Below.refl _ _).alloc (Nat.le_refl _) _).trans (hb1.mono (by simp))
  clear hb1
  rcases hvd : vldB c vs with _ | _
  · have HV := Lib.hid (parI_no hvd)
    clear hvd
    go_wp2
    go_ret
    exact ⟨ret_int HV.out.symm, hf1⟩
  · have HD := Lib.hid hvd
    clear hvd
    by_cases hn : vs.length = 0
    · have d1 : ((vs.length : Int) == 0) = true := by simp [hn]
      have HV := Lib.hid (parI_nil (c := c) hn)
      clear hn
      go_wp2
      go_ret
      exact ⟨ret_int HV.out.symm, hf1⟩
    · have d1 : ((vs.length : Int) == 0) = false := by rw [beq_eq_false_iff_ne]; omega
      obtain ⟨b, off, x, y, rfl, hb, hg, hc0, hc1⟩ := (hv.below hf1 hB).at_ (k := vs.length - 1) (by omega)
      have hx := vld_idx HD.out (x, y) (List.mem_of_getElem? hg)
      have HV := Lib.hid (parI_yes HD.out hg)
      clear hg hc1
      obtain ⟨hx1, hx2⟩ := hx
      simp only at hx1 hx2
      have hk0 : (0 : Int) ≤ (vs.length : Int) - 1 := by omega
      have hk1 : (vs.length : Int) - 1 < (vs.length : Int) := by omega
      go_wp2
      all_goals
        go_ret
        exact ⟨ret_int (by rw [HV.out]; omega), hf1⟩

end Go.Proofs.YtbiifkpelldciaaDoor
