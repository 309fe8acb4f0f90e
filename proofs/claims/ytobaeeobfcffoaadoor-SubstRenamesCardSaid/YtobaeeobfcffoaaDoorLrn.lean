/- The law SubstRenames. -/
import Derived.Test.YtobaeeobfcffoaaDoorRrp
namespace Go.Proofs.YtobaeeobfcffoaaDoor
open Go.RowKit

structure Ih (B : Nat) (AT : Option Addr) (tos : List Int) (w : World) : Prop where
  ia : IA w B AT tos
  le : B ≤ w.heap.size
theorem Ih.next {B : Nat} {AT : Option Addr} {tos : List Int} {w w' : World} (h : Ih B AT tos w) (hb : Below w.heap.size w w') : Ih B AT tos w' := ⟨h.ia.next (hb.mono h.le), Nat.le_trans h.le hb.size⟩
theorem Ih.all {B : Nat} {AT : Option Addr} {tos : List Int} {w : World} (h : Ih B AT tos w) : IA w w.heap.size AT tos := h.ia.more h.le
set_option maxRecDepth 100000 in
set_option maxHeartbeats 16000000 in
theorem substRenames_any (t : Tm) (tos : List Int) (vt : Value) (AT : Option Addr) (ct : Nat) (w : World) (hvt : TmV w w.heap.size t vt) (hia : IA w w.heap.size AT tos) (hwt : WfT t) (hsh : Shapes w) (hw : 0 < w.heap.size) : Calls Tryd.prog 5 #[vt, .slice AT tos.length ct] w fun e w' => e = .returned (.bool true) ∧ Below w.heap.size w w' := by
  obtain ⟨ka, ia, na, ALa, nla, cla, AKa, nka, cka, rfl, _⟩ := TmP.open_ (TmP.of t vt hvt)
  have hA := TB.new hvt
  have hV := (Ih.next (B := w.heap.size) (AT := AT) (tos := tos) ⟨hia, Nat.le_refl _⟩ (alB w (.cells #[.int .i64 ka, .int .i64 ia, .string na, .slice ALa nla cla, .slice AKa nka cka] 25)))
  have hL := (Lw.start hsh hw).next (alB w (.cells #[.int .i64 ka, .int .i64 ia, .string na, .slice ALa nla cla, .slice AKa nka cka] 25))
  obtain ⟨w0, hw0⟩ : ∃ z, z = w.alloc (.cells #[.int .i64 ka, .int .i64 ia, .string na, .slice ALa nla cla, .slice AKa nka cka] 25) := ⟨_, rfl⟩
  rw [← hw0] at hA hV hL
  have HW0 := Lib.hid hw0
  have A := Lib.hid hA
  have V := Lib.hid hV
  have LW := Lib.hid hL
  have HWF := Lib.hid hwt
  clear hw0 hA hV hL hvt hia hwt hsh hw
  go_enter Tryd.func5, Tryd.ntmps5
  go_upto_region 1 with fail
  rw [← HW0.out]
  clear HW0
  obtain ⟨a0, a1, a2, a3, a4, _, _, _, _, _⟩ := A.out.b5
  go_wp2_with fail
  refine (good_any [t] (some ⟨w0.heap.size, 0, none⟩) 1 (w0.heap.size + 1) _ (by simp) (list_ka (A.out.rd rfl) (by simp)) (by simp) (by simpa using HWF.out)).mono ?_
  rintro e w2 ⟨b, rfl, hb, hg⟩
  have A := Lib.hid ((A.out.next (alB _ _)).next hb)
  have V := Lib.hid ((V.out.next (alB _ _)).next hb)
  have LW := Lib.hid ((LW.out.next (alB _ _)).next hb)
  clear hb
  clear a0 a1 a2 a3 a4
  cases b with
  | false =>
    clear hg
    go_wp2_with fail
    refine (awake_any _ LW.out.sh LW.out.pos).mono ?_
    rintro e v1 ⟨rfl, hb⟩
    have LW := Lib.hid (LW.out.next hb)
    clear hb
    go_wp2_with fail
    go_ret
    exact ⟨rfl, LW.out.below⟩
  | true =>
    have HGT := Lib.hid (hg rfl t (by simp))
    clear hg
    by_cases h8 : 100 < tos.length
    · have d8 : decide ((100 : Int) < (tos.length : Int)) = true := decide_eq_true (by omega)
      go_wp2_with fail
      refine (awake_any _ LW.out.sh LW.out.pos).mono ?_
      rintro e v2 ⟨rfl, hb⟩
      have LW := Lib.hid (LW.out.next hb)
      clear hb
      go_wp2_with fail
      go_ret
      exact ⟨rfl, LW.out.below⟩
    have d8 : decide ((100 : Int) < (tos.length : Int)) = false := decide_eq_false (by omega)
    obtain ⟨a0, a1, a2, a3, a4, _, _, _, _, _⟩ := A.out.b5
    go_wp2_with fail
    refine (rename_any t _ tos AT ct _ w2 A.out.tv V.out.all (Nat.le_refl _) (by have := HGT.out.sz; omega) HGT.out.qv).mono ?_
    intro e v3 h
    obtain ⟨hb, k3, i3, n3, AL3, nl3, cl3, AK3, nk3, ck3, rfl, ht⟩ := h.tmv
    have A := Lib.hid (A.out.next hb)
    have V := Lib.hid (V.out.next hb)
    have LW := Lib.hid (LW.out.next hb)
    have C := Lib.hid (TB.new ht)
    have A := Lib.hid (A.out.next (alB v3 (.cells #[.int .i64 k3, .int .i64 i3, .string n3, .slice AL3 nl3 cl3, .slice AK3 nk3 ck3] 25)))
    have V := Lib.hid (V.out.next (alB v3 (.cells #[.int .i64 k3, .int .i64 i3, .string n3, .slice AL3 nl3 cl3, .slice AK3 nk3 ck3] 25)))
    have LW := Lib.hid (LW.out.next (alB v3 (.cells #[.int .i64 k3, .int .i64 i3, .string n3, .slice AL3 nl3 cl3, .slice AK3 nk3 ck3] 25)))
    obtain ⟨w3, hw3⟩ : ∃ x, x = v3.alloc (.cells #[.int .i64 k3, .int .i64 i3, .string n3, .slice AL3 nl3 cl3, .slice AK3 nk3 ck3] 25) := ⟨_, rfl⟩
    rw [← hw3] at A V C LW
    have HW3 := Lib.hid hw3
    clear h hb ht hw3
    clear a0 a1 a2 a3 a4
    go_upto_region 4 with fail
    rw [← HW3.out]
    clear HW3
    obtain ⟨a0, a1, a2, a3, a4, _, _, _, _, _⟩ := A.out.b5
    go_wp2_with fail
    refine (rrenameT_any t _ tos AT ct _ w3 A.out.tv V.out.all (Nat.le_refl _) (by have := HGT.out.sz; omega) HGT.out.qv).mono ?_
    rw [(rn_ren HGT.out.wg (by have := HGT.out.sz; omega)).1, (rn_ren HGT.out.wg (by have := HGT.out.sz; omega)).2]
    intro e v4 h
    obtain ⟨hb, k4, i4, n4, AL4, nl4, cl4, AK4, nk4, ck4, rfl, ht⟩ := h
    have A := Lib.hid (A.out.next hb)
    have V := Lib.hid (V.out.next hb)
    have C := Lib.hid (C.out.next hb)
    have LW := Lib.hid (LW.out.next hb)
    have D := Lib.hid (TB.new ht)
    have A := Lib.hid (A.out.next (alB v4 (.cells #[.int .i64 k4, .int .i64 i4, .string n4, .slice AL4 nl4 cl4, .slice AK4 nk4 ck4] 25)))
    have V := Lib.hid (V.out.next (alB v4 (.cells #[.int .i64 k4, .int .i64 i4, .string n4, .slice AL4 nl4 cl4, .slice AK4 nk4 ck4] 25)))
    have C := Lib.hid (C.out.next (alB v4 (.cells #[.int .i64 k4, .int .i64 i4, .string n4, .slice AL4 nl4 cl4, .slice AK4 nk4 ck4] 25)))
    have LW := Lib.hid (LW.out.next (alB v4 (.cells #[.int .i64 k4, .int .i64 i4, .string n4, .slice AL4 nl4 cl4, .slice AK4 nk4 ck4] 25)))
    obtain ⟨w4, hw4⟩ : ∃ x, x = v4.alloc (.cells #[.int .i64 k4, .int .i64 i4, .string n4, .slice AL4 nl4 cl4, .slice AK4 nk4 ck4] 25) := ⟨_, rfl⟩
    rw [← hw4] at A V C D LW
    have HW4 := Lib.hid hw4
    clear hb ht hw4
    clear a0 a1 a2 a3 a4
    go_upto_region 5 with fail
    rw [← HW4.out]
    clear HW4
    clear HGT A V
    generalize resO (cpT (renR tos) t 0) = o1 at *
    generalize errO (cpT (renR tos) t 0) = e1 at *
    have b1 : (e1 == e1) = true := beq_self_eq_true _
    obtain ⟨c0, c1, c2, c3, c4, _, _, _, _, _⟩ := C.out.b5
    obtain ⟨d0, d1, d2, d3, d4, _, _, _, _, _⟩ := D.out.b5
    go_wp2_with fail
    refine (rsameT_any (szT o1) o1 o1 _ _ _ w4 (Nat.le_refl _) C.out.tv D.out.tv (Nat.le_refl _)).mono ?_
    rw [sameT_self]
    rintro e w8 ⟨rfl, hb⟩
    have C := Lib.hid (C.out.next hb)
    have D := Lib.hid (D.out.next hb)
    have LW := Lib.hid (LW.out.next hb)
    clear hb
    clear c0 c1 c2 c3 c4 d0 d1 d2 d3 d4
    go_wp2_with fail
    refine (awake_any _ LW.out.sh LW.out.pos).mono ?_
    rintro e v5 ⟨rfl, hb⟩
    have LW := Lib.hid (LW.out.next hb)
    clear hb
    go_wp2_with fail
    go_ret
    exact ⟨rfl, LW.out.below⟩
end Go.Proofs.YtobaeeobfcffoaaDoor
