/- The law SubstShifts. -/
import Derived.Test.YtobaeeobfcffoaaDoorRst
import Derived.Test.YtobaeeobfcffoaaDoorLis
namespace Go.Proofs.YtobaeeobfcffoaaDoor
open Go.RowKit

theorem rs_sh {by_ fr : Int} {t : Tm} (h : GoodT t) : rsE by_ fr t = shE by_ fr t ∧ rsO by_ fr t = shO by_ fr t := by
  by_cases hb : fr < 0 ∨ by_ < -65536 ∨ 65536 < by_
  · unfold rsE shE rsO shO
    rw [if_pos hb, if_pos hb, if_pos hb, if_pos hb]
    exact ⟨rfl, rfl⟩
  · obtain ⟨e1, e2⟩ := sh_rf (by_ := by_) (fr := fr) (by omega) (by omega) t h.wg (by have := h.sz; omega)
    rw [e1, e2]
    unfold rsE rsO
    rw [if_neg hb, if_neg hb]
    exact ⟨rfl, rfl⟩
set_option maxRecDepth 100000 in
set_option maxHeartbeats 8000000 in
theorem substShifts_any (t : Tm) (v : Value) (by_ fr : Int) (w : World) (hv : TmV w w.heap.size t v) (hwf : WfT t) (hfr : -9223372036854775808 ≤ fr ∧ fr ≤ 9223372036854775807) (hsh : Shapes w) (hw : 0 < w.heap.size) : Calls Tryd.prog 3 #[v, .int .i64 by_, .int .i64 fr] w fun e w' => e = .returned (.bool true) ∧ Below w.heap.size w w' := by
  obtain ⟨k, i, nm, AL, nl, cl, AK, nk, ck, rfl, _⟩ := TmP.open_ (TmP.of t v hv)
  have T0 := Lib.hid (TB.new hv)
  have L0 := Lib.hid ((Lw.start hsh hw).next (alB w (.cells #[.int .i64 k, .int .i64 i, .string nm, .slice AL nl cl, .slice AK nk ck] 25)))
  have HWF := Lib.hid hwf
  clear hv hsh hwf hw
  obtain ⟨x0, x1, x2, x3, x4, _, _, _, _, _⟩ := T0.out.b5
  go_enter Tryd.func3, Tryd.ntmps3
  go_wp2_with fail
  have hl := listed_of T0.out.tv (Nat.le_refl _)
  simp only [World.size_alloc] at hl
  refine (good_any [t] (some ⟨w.heap.size + 1, 0, none⟩) 1 (w.heap.size + 1 + 1) _ (by simp) hl (by simp) (by simpa using HWF.out)).mono ?_
  rintro e w2 ⟨b, rfl, hb, hg⟩
  have T1 := Lib.hid ((T0.out.next (alB _ _)).next hb)
  have L1 := Lib.hid ((L0.out.next (alB _ _)).next hb)
  clear x0 x1 x2 x3 x4 hb hl T0 L0
  cases b with
  | false =>
    clear hg
    go_wp2_with fail
    refine (awake_any _ L1.out.sh L1.out.pos).mono ?_
    rintro e w3 ⟨rfl, hb3⟩
    have L2 := Lib.hid (L1.out.next hb3)
    clear hb3
    go_wp2_with fail
    go_ret
    exact ⟨rfl, L2.out.below⟩
  | true =>
    have HG := Lib.hid (hg rfl t (by simp))
    clear hg
    obtain ⟨x0, x1, x2, x3, x4, _, _, _, _, _⟩ := T1.out.b5
    go_wp2_with fail
    refine (sshift_any t _ by_ fr _ w2 T1.out.tv (Nat.le_refl _) (by have := HG.out.sz; omega) HG.out.qv hfr).mono ?_
    intro e w3 h
    obtain ⟨hb, k1, i1, n1, AL1, nl1, cl1, AK1, nk1, ck1, rfl, ht⟩ := h.tmv
    have TA := Lib.hid (TB.new ht)
    obtain ⟨w4, hw4⟩ : ∃ x, x = w3.alloc (.cells #[.int .i64 k1, .int .i64 i1, .string n1, .slice AL1 nl1 cl1, .slice AK1 nk1 ck1] 25) := ⟨_, rfl⟩
    have T2 := Lib.hid ((T1.out.next hb).next (alB w3 (.cells #[.int .i64 k1, .int .i64 i1, .string n1, .slice AL1 nl1 cl1, .slice AK1 nk1 ck1] 25)))
    have L2 := Lib.hid ((L1.out.next hb).next (alB w3 (.cells #[.int .i64 k1, .int .i64 i1, .string n1, .slice AL1 nl1 cl1, .slice AK1 nk1 ck1] 25)))
    rw [← hw4] at TA T2 L2
    have HW4 := Lib.hid hw4
    clear h hb ht T1 L1 x0 x1 x2 x3 x4 hw4
    go_upto_region 4 with fail
    rw [← HW4.out]
    clear HW4
    obtain ⟨x0, x1, x2, x3, x4, _, _, _, _, _⟩ := T2.out.b5
    go_wp2_with fail
    refine (rst_any t _ by_ fr _ w4 T2.out.tv (Nat.le_refl _) (by have := HG.out.sz; omega) HG.out.qv hfr).mono ?_
    rw [(rs_sh HG.out).1, (rs_sh HG.out).2]
    intro e w5 h
    obtain ⟨hb, k2, i2, n2, AL2, nl2, cl2, AK2, nk2, ck2, rfl, ht⟩ := h
    have TC := Lib.hid (TB.new ht)
    obtain ⟨w6, hw6⟩ : ∃ x, x = w5.alloc (.cells #[.int .i64 k2, .int .i64 i2, .string n2, .slice AL2 nl2 cl2, .slice AK2 nk2 ck2] 25) := ⟨_, rfl⟩
    have TA2 := Lib.hid ((TA.out.next hb).next (alB w5 (.cells #[.int .i64 k2, .int .i64 i2, .string n2, .slice AL2 nl2 cl2, .slice AK2 nk2 ck2] 25)))
    have L3 := Lib.hid ((L2.out.next hb).next (alB w5 (.cells #[.int .i64 k2, .int .i64 i2, .string n2, .slice AL2 nl2 cl2, .slice AK2 nk2 ck2] 25)))
    rw [← hw6] at TC TA2 L3
    have HW6 := Lib.hid hw6
    clear hb ht T2 L2 TA x0 x1 x2 x3 x4 hw6
    go_upto_region 5 with fail
    rw [← HW6.out]
    clear HW6
    generalize hev : shE by_ fr t = ev
    generalize hov : shO by_ fr t = ov at TC TA2
    clear hev hov
    have hbe : (ev == ev) = true := beq_self_eq_true _
    obtain ⟨x0, x1, x2, x3, x4, _, _, _, _, _⟩ := TA2.out.b5
    obtain ⟨y0, y1, y2, y3, y4, _, _, _, _, _⟩ := TC.out.b5
    go_wp2_with fail
    refine (rsameT_any (szT ov) ov ov _ _ _ w6 (Nat.le_refl _) TA2.out.tv TC.out.tv (Nat.le_refl _)).mono ?_
    rw [sameT_self]
    rintro e w7 ⟨rfl, hb⟩
    have L4 := Lib.hid (L3.out.next hb)
    clear hb x0 x1 x2 x3 x4 y0 y1 y2 y3 y4
    go_wp2_with fail
    refine (awake_any _ L4.out.sh L4.out.pos).mono ?_
    rintro e w8 ⟨rfl, hb⟩
    have L5 := Lib.hid (L4.out.next hb)
    clear hb
    go_wp2_with fail
    go_ret
    exact ⟨rfl, L5.out.below⟩
end Go.Proofs.YtobaeeobfcffoaaDoor
