/- The law SubstAbstracts. -/
import Derived.Test.YtobaeeobfcffoaaDoorRav
namespace Go.Proofs.YtobaeeobfcffoaaDoor
open Go.RowKit

set_option maxRecDepth 100000 in
set_option maxHeartbeats 16000000 in
theorem substAbstracts_any (t part : Tm) (vt vp : Value) (w : World) (hvt : TmV w w.heap.size t vt) (hvp : TmV w w.heap.size part vp) (hwt : WfT t) (hwp : WfT part) (hsh : Shapes w) (hw : 0 < w.heap.size) : Calls Tryd.prog 6 #[vt, vp] w fun e w' => e = .returned (.bool true) ∧ Below w.heap.size w w' := by
  obtain ⟨ka, ia, na, ALa, nla, cla, AKa, nka, cka, rfl, _⟩ := TmP.open_ (TmP.of t vt hvt)
  obtain ⟨kb, ib, nb, ALb, nlb, clb, AKb, nkb, ckb, rfl, _⟩ := TmP.open_ (TmP.of part vp hvp)
  have hA := (TB.new hvt).next (alB _ (.cells #[.int .i64 kb, .int .i64 ib, .string nb, .slice ALb nlb clb, .slice AKb nkb ckb] 25))
  have hB := TB.new (tv_next hvp (alB w (.cells #[.int .i64 ka, .int .i64 ia, .string na, .slice ALa nla cla, .slice AKa nka cka] 25)))
  have hL := (((Lw.start hsh hw).next (alB w (.cells #[.int .i64 ka, .int .i64 ia, .string na, .slice ALa nla cla, .slice AKa nka cka] 25))).next (alB _ (.cells #[.int .i64 kb, .int .i64 ib, .string nb, .slice ALb nlb clb, .slice AKb nkb ckb] 25)))
  simp only [World.size_alloc] at hB
  obtain ⟨w0, hw0⟩ : ∃ z, z = (w.alloc (.cells #[.int .i64 ka, .int .i64 ia, .string na, .slice ALa nla cla, .slice AKa nka cka] 25)).alloc (.cells #[.int .i64 kb, .int .i64 ib, .string nb, .slice ALb nlb clb, .slice AKb nkb ckb] 25) := ⟨_, rfl⟩
  rw [← hw0] at hA hB hL
  have HW0 := Lib.hid hw0
  have A := Lib.hid hA
  have B := Lib.hid hB
  have LW := Lib.hid hL
  have HWF := Lib.hid (And.intro hwt hwp)
  clear hw0 hA hB hL hvt hvp hwt hwp hsh hw
  go_enter Tryd.func6, Tryd.ntmps6
  go_upto_region 1 with fail
  rw [← HW0.out]
  clear HW0
  obtain ⟨a0, a1, a2, a3, a4, _, _, _, _, _⟩ := A.out.b5
  obtain ⟨b0, b1, b2, b3, b4, _, _, _, _, _⟩ := B.out.b5
  go_wp2_with fail
  refine (good_any [t, part] (some ⟨w0.heap.size, 0, none⟩) 2 (w0.heap.size + 1) _ (by simp) (list_ka (A.out.rd (B.out.rd rfl)) (by simp)) (by simp) (by simpa using HWF.out)).mono ?_
  rintro e w2 ⟨b, rfl, hb, hg⟩
  have A := Lib.hid ((A.out.next (alB _ _)).next hb)
  have B := Lib.hid ((B.out.next (alB _ _)).next hb)
  have LW := Lib.hid ((LW.out.next (alB _ _)).next hb)
  clear hb
  clear a0 a1 a2 a3 a4 b0 b1 b2 b3 b4
  cases b with
  | false =>
    clear hg
    go_wp2_with fail
    refine (awake_any _ LW.out.sh LW.out.pos).mono ?_
    rintro e v1 ⟨rfl, hb⟩
    have LW := Lib.hid (LW.out.next hb)
    clear hb
    go_wp2_with fail
    go_ret
    exact ⟨rfl, LW.out.below⟩
  | true =>
    have HGT := Lib.hid (hg rfl t (by simp))
    have HGP := Lib.hid (hg rfl part (by simp))
    clear hg
    obtain ⟨a0, a1, a2, a3, a4, _, _, _, _, _⟩ := A.out.b5
    obtain ⟨b0, b1, b2, b3, b4, _, _, _, _, _⟩ := B.out.b5
    go_wp2_with fail
    refine (abstract_any t part _ _ _ w2 A.out.tv B.out.tv (Nat.le_refl _) (by have := HGT.out.sz; omega) HGT.out.qv (by have := HGP.out.sz; omega) HGP.out.qv).mono ?_
    rintro e v2 ⟨hb, k2, i2, n2, AL2, nl2, cl2, AK2, nk2, ck2, rfl, ht⟩
    have A := Lib.hid (A.out.next hb)
    have B := Lib.hid (B.out.next hb)
    have LW := Lib.hid (LW.out.next hb)
    have C := Lib.hid (TB.new ht)
    have A := Lib.hid (A.out.next (alB v2 (.cells #[.int .i64 k2, .int .i64 i2, .string n2, .slice AL2 nl2 cl2, .slice AK2 nk2 ck2] 25)))
    have B := Lib.hid (B.out.next (alB v2 (.cells #[.int .i64 k2, .int .i64 i2, .string n2, .slice AL2 nl2 cl2, .slice AK2 nk2 ck2] 25)))
    have LW := Lib.hid (LW.out.next (alB v2 (.cells #[.int .i64 k2, .int .i64 i2, .string n2, .slice AL2 nl2 cl2, .slice AK2 nk2 ck2] 25)))
    obtain ⟨w2, hw2⟩ : ∃ x, x = v2.alloc (.cells #[.int .i64 k2, .int .i64 i2, .string n2, .slice AL2 nl2 cl2, .slice AK2 nk2 ck2] 25) := ⟨_, rfl⟩
    rw [← hw2] at A B C LW
    have HW2 := Lib.hid hw2
    clear hb ht hw2
    clear a0 a1 a2 a3 a4 b0 b1 b2 b3 b4
    go_upto_region 4 with fail
    rw [← HW2.out]
    clear HW2
    obtain ⟨a0, a1, a2, a3, a4, _, _, _, _, _⟩ := A.out.b5
    obtain ⟨b0, b1, b2, b3, b4, _, _, _, _, _⟩ := B.out.b5
    go_wp2_with fail
    refine (rabst_any t part _ _ _ w2 A.out.tv B.out.tv (Nat.le_refl _) (by have := HGT.out.sz; omega) HGT.out.qv (by have := HGP.out.sz; omega) HGP.out.qv).mono ?_
    rw [(ra_ab HGT.out HGP.out).1, (ra_ab HGT.out HGP.out).2.1, (ra_ab HGT.out HGP.out).2.2]
    rintro e v3 ⟨hb, k3, i3, n3, AL3, nl3, cl3, AK3, nk3, ck3, rfl, ht⟩
    have A := Lib.hid (A.out.next hb)
    have B := Lib.hid (B.out.next hb)
    have C := Lib.hid (C.out.next hb)
    have LW := Lib.hid (LW.out.next hb)
    have D := Lib.hid (TB.new ht)
    have A := Lib.hid (A.out.next (alB v3 (.cells #[.int .i64 k3, .int .i64 i3, .string n3, .slice AL3 nl3 cl3, .slice AK3 nk3 ck3] 25)))
    have B := Lib.hid (B.out.next (alB v3 (.cells #[.int .i64 k3, .int .i64 i3, .string n3, .slice AL3 nl3 cl3, .slice AK3 nk3 ck3] 25)))
    have C := Lib.hid (C.out.next (alB v3 (.cells #[.int .i64 k3, .int .i64 i3, .string n3, .slice AL3 nl3 cl3, .slice AK3 nk3 ck3] 25)))
    have LW := Lib.hid (LW.out.next (alB v3 (.cells #[.int .i64 k3, .int .i64 i3, .string n3, .slice AL3 nl3 cl3, .slice AK3 nk3 ck3] 25)))
    obtain ⟨w3, hw3⟩ : ∃ x, x = v3.alloc (.cells #[.int .i64 k3, .int .i64 i3, .string n3, .slice AL3 nl3 cl3, .slice AK3 nk3 ck3] 25) := ⟨_, rfl⟩
    rw [← hw3] at A B C D LW
    have HW3 := Lib.hid hw3
    clear hb ht hw3
    clear a0 a1 a2 a3 a4 b0 b1 b2 b3 b4
    go_upto_region 5 with fail
    rw [← HW3.out]
    clear HW3
    clear HGT HGP A B
    generalize resO (cpT (absP part) t 0) = o1 at *
    generalize errO (cpT (absP part) t 0) = e1 at *
    generalize abN part t = nn at *
    have b1 : (e1 == e1) = true := beq_self_eq_true _
    have b2 : ((nn : Int) == (nn : Int)) = true := beq_self_eq_true _
    obtain ⟨c0, c1, c2, c3, c4, _, _, _, _, _⟩ := C.out.b5
    obtain ⟨d0, d1, d2, d3, d4, _, _, _, _, _⟩ := D.out.b5
    go_wp2_with fail
    refine (rsameT_any (szT o1) o1 o1 _ _ _ w3 (Nat.le_refl _) C.out.tv D.out.tv (Nat.le_refl _)).mono ?_
    rw [sameT_self]
    rintro e w8 ⟨rfl, hb⟩
    have C := Lib.hid (C.out.next hb)
    have D := Lib.hid (D.out.next hb)
    have LW := Lib.hid (LW.out.next hb)
    clear hb
    clear c0 c1 c2 c3 c4 d0 d1 d2 d3 d4
    go_wp2_with fail
    refine (awake_any _ LW.out.sh LW.out.pos).mono ?_
    rintro e v4 ⟨rfl, hb⟩
    have LW := Lib.hid (LW.out.next hb)
    clear hb
    go_wp2_with fail
    go_ret
    exact ⟨rfl, LW.out.below⟩
end Go.Proofs.YtobaeeobfcffoaaDoor
