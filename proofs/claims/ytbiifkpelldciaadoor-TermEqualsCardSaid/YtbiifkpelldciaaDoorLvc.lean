/- checkLevel: the error of a level in a scope. -/
import Derived.Test.YtbiifkpelldciaaDoorVpm
import Derived.Deep.RegionHeld3
namespace Go.Proofs.YtbiifkpelldciaaDoor
open Go.RowKit

/-- The error of a level. -/
def lvE (params levels c : Int) (vs : List (Int × Int)) : Int :=
  if vldB c vs = false then 3 else if params < parI c vs then 15 else match vs[0]? with | none => 0 | some q => if levels ≤ -1 - q.1 then 23 else 0
theorem lvE_bad {params levels c : Int} {vs : List (Int × Int)} (h : vldB c vs = false) : lvE params levels c vs = 3 := by simp [lvE, h]
theorem lvE_par {params levels c : Int} {vs : List (Int × Int)} (h : vldB c vs = true) (h2 : params < parI c vs) : lvE params levels c vs = 15 := by simp [lvE, h, h2]
theorem lvE_nil {params levels c : Int} {vs : List (Int × Int)} (h : vldB c vs = true) (h2 : ¬ params < parI c vs) (h3 : vs.length = 0) : lvE params levels c vs = 0 := by
  have : vs[0]? = none := List.getElem?_eq_none (by omega)
  simp [lvE, h, h2, this]
theorem lvE_some {params levels c x y : Int} {vs : List (Int × Int)} (h : vldB c vs = true) (h2 : ¬ params < parI c vs) (h3 : vs[0]? = some (x, y)) : lvE params levels c vs = if levels ≤ -1 - x then 23 else 0 := by simp [lvE, h, h2, h3]

/-- A scope and a level in their boxes. -/
structure ScL (w : World) (vars params metas levels c : Int) (A : Option Addr) (cap B : Nat) (vs : List (Int × Int)) (wx : World) : Prop where
  s1 : wx.cell? ⟨w.heap.size, 1, none⟩ = some (.int .i64 params)
  s3 : wx.cell? ⟨w.heap.size, 3, none⟩ = some (.int .i64 levels)
  l0 : wx.cell? ⟨w.heap.size + 1, 0, none⟩ = some (.int .i64 c)
  l1 : wx.cell? ⟨w.heap.size + 1, 1, none⟩ = some (.slice A vs.length cap)
  va : VA wx B A vs
  below : Below w.heap.size w wx
  size : w.heap.size + 1 < wx.heap.size
namespace ScL
variable {w wx wy : World} {vars params metas levels c : Int} {A : Option Addr} {cap B : Nat} {vs : List (Int × Int)}
theorem next (hB : B ≤ w.heap.size) (h : ScL w vars params metas levels c A cap B vs wx) (hb : Below wx.heap.size wx wy) : ScL w vars params metas levels c A cap B vs wy where
  s1 := (hb.cell (p := ⟨w.heap.size, 1, none⟩) (by have := h.size; show w.heap.size < _; omega)).trans h.s1
  s3 := (hb.cell (p := ⟨w.heap.size, 3, none⟩) (by have := h.size; show w.heap.size < _; omega)).trans h.s3
  l0 := (hb.cell (p := ⟨w.heap.size + 1, 0, none⟩) h.size).trans h.l0
  l1 := (hb.cell (p := ⟨w.heap.size + 1, 1, none⟩) h.size).trans h.l1
  va := h.va.below hb (by have := h.size; omega)
  below := h.below.trans (hb.mono (by have := h.size; omega))
  size := Nat.lt_of_lt_of_le h.size hb.size
theorem drew (h : ScL w vars params metas levels c A cap B vs wx) : ScL w vars params metas levels c A cap B vs wx.drew :=
  ⟨h.s1, h.s3, h.l0, h.l1, ⟨h.va.1, h.va.2⟩, ⟨h.below.os, h.below.tape, h.below.output, h.below.size, h.below.block⟩, h.size⟩
theorem start (hB : B ≤ w.heap.size) (hv : VA w B A vs) : ScL w vars params metas levels c A cap B vs ((w.alloc (.cells #[.int .i64 vars, .int .i64 params, .int .i64 metas, .int .i64 levels] 89)).alloc (.cells #[.int .i64 c, .slice A vs.length cap] 52)) := by
  have hb : Below w.heap.size w ((w.alloc (.cells #[.int .i64 vars, .int .i64 params, .int .i64 metas, .int .i64 levels] 89)).alloc (.cells #[.int .i64 c, .slice A vs.length cap] 52)) := ((Below.refl _ _).alloc (Nat.le_refl _) _).alloc (by simp) _
  exact ⟨by go_simp, by go_simp, by go_simp, by go_simp, hv.below hb hB, hb, by simp⟩
end ScL

set_option maxRecDepth 100000 in
set_option maxHeartbeats 4000000 in
theorem checkLevel_any (vars params metas levels c : Int) (A : Option Addr) (cap : Nat) (vs : List (Int × Int)) (B : Nat) (w : World) (hv : VA w B A vs) (hB : B ≤ w.heap.size) :
    Calls Tryd.prog 70 #[.agg #[.int .i64 vars, .int .i64 params, .int .i64 metas, .int .i64 levels], .agg #[.int .i64 c, .slice A vs.length cap]] w fun e w' => e = .returned (.int .i64 (lvE params levels c vs)) ∧ Below w.heap.size w w' := by
  have S0 := Lib.hid (ScL.start (cap := cap) (c := c) (vars := vars) (params := params) (metas := metas) (levels := levels) hB hv)
  have hlen := hv.len
  go_enter Tryd.func70, Tryd.ntmps70
  go_wp2_with fail
  refine (valid_any c A cap vs B _ S0.out.va (by simp; omega)).mono ?_
  rintro e w1 ⟨rfl, hb1⟩
  have S1 := Lib.hid (S0.out.next hB hb1)
  clear hb1 S0 hv
  cases hvd : vldB c vs with
  | false =>
    have HV := Lib.hid (lvE_bad (params := params) (levels := levels) hvd)
    clear hvd
    go_wp2_with fail
    go_ret
    exact ⟨ret_int HV.out.symm, S1.out.below⟩
  | true =>
    have HD := Lib.hid hvd
    clear hvd
    obtain ⟨s1, s3, l0, l1, _, _, _⟩ := S1.out
    go_wp2_with fail
    have HB := Lib.hid S1.out.drew
    go_region_held3 (fun w' => w'.cell? ⟨w.heap.size, 1, none⟩ = some (.int .i64 params) ∧ w'.cell? ⟨w.heap.size + 1, 0, none⟩ = some (.int .i64 c) ∧ w'.cell? ⟨w.heap.size + 1, 1, none⟩ = some (.slice A vs.length cap))
      (first | exact ⟨HB.out.s1, HB.out.l0, HB.out.l1⟩)
      (first | (go_at_call 78; refine (params_any c A cap vs B _ HB.out.va (by have := HB.out.size; omega)).mono ?_; rintro e w7 ⟨rfl, hb7⟩; have HB := Lib.hid (HB.out.next hB hb7); clear hb7))
    all_goals
      clear s1 s3 l0 l1
      obtain ⟨s1, s3, l0, l1, hva, hbl, hsz⟩ := HB.out
      clear HB S1
      cases hp : decide (params < parI c vs) with
      | true =>
        have HV := Lib.hid (lvE_par (levels := levels) HD.out (of_decide_eq_true hp))
        clear hp
        go_wp2_with fail
        go_ret
        exact ⟨ret_int HV.out.symm, hbl⟩
      | false =>
        have HP := Lib.hid (of_decide_eq_false hp)
        clear hp
        by_cases hn : vs.length = 0
        · have d1 : ¬ 0 < vs.length := by omega
          have HV := Lib.hid (lvE_nil (levels := levels) HD.out HP.out hn)
          have d2 : decide ((0 : Int) < (vs.length : Int)) = false := by rw [decide_eq_false_iff_not]; omega
          clear hn
          go_wp2_with fail
          go_quiet (fail)
          go_wp2_with fail
          go_ret
          exact ⟨ret_int HV.out.symm, Below.drewN' hbl _⟩
        · have d1 : 0 < vs.length := by omega
          have d2 : decide ((0 : Int) < (vs.length : Int)) = true := by rw [decide_eq_true_iff]; omega
          obtain ⟨b, off, x, y, rfl, hb, hg, hc0, hc1⟩ := hva.at_ (k := 0) (by omega)
          have hx := vld_idx HD.out (x, y) (List.mem_of_getElem? hg)
          obtain ⟨hx1, hx2⟩ := hx
          simp only at hx1 hx2
          rw [Nat.zero_mul, Nat.add_zero] at hc0
          have HV := Lib.hid (lvE_some (levels := levels) HD.out HP.out hg)
          clear hg hc1 hn
          cases hl : decide (levels ≤ -1 - x) with
          | true =>
            have hl' := Lib.hid (of_decide_eq_true hl)
            go_wp2_with fail
            go_quiet (fail)
            go_wp2_with fail
            go_ret
            exact ⟨ret_int (by rw [HV.out, if_pos hl'.out]), Below.drewN' hbl _⟩
          | false =>
            have hl' := Lib.hid (of_decide_eq_false hl)
            go_wp2_with fail
            go_quiet (fail)
            go_wp2_with fail
            go_ret
            exact ⟨ret_int (by rw [HV.out, if_neg (by have := hl'.out; omega)]), Below.drewN' hbl _⟩
end Go.Proofs.YtbiifkpelldciaaDoor
