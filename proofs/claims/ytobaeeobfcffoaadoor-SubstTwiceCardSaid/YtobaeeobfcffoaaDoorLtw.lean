/- The law SubstTwice. -/
import Derived.Test.YtobaeeobfcffoaaDoorLis
import Derived.Test.YtobaeeobfcffoaaDoorTwp
namespace Go.Proofs.YtobaeeobfcffoaaDoor
open Go.RowKit

theorem tw_same {t x y : Tm} (ht : GoodT t) (hx : GoodT x) (h1 : shE 1 0 x = 0) (h2 : unE [shO 1 0 x] 0 t = 0) (h3 : unE [y] 0 (unO [shO 1 0 x] 0 t) = 0) (h4 : unE [x, y] 0 t = 0) : unO [y] 0 (unO [shO 1 0 x] 0 t) = unO [x, y] 0 t := by
  rw [(unE_zero' h3).1, (unE_zero' h4).1, (unE_zero' h2).1, (shE_zero h1).1]
  exact tw_pure t x y ht.wv hx.wv
set_option maxRecDepth 100000 in
set_option maxHeartbeats 16000000 in
theorem substTwice_any (t x y : Tm) (vt vx vy : Value) (w : World) (hvt : TmV w w.heap.size t vt) (hvx : TmV w w.heap.size x vx) (hvy : TmV w w.heap.size y vy) (hwt : WfT t) (hwx : WfT x) (hwy : WfT y) (hsh : Shapes w) (hw : 0 < w.heap.size) : Calls Tryd.prog 9 #[vt, vx, vy] w fun e w' => e = .returned (.bool true) ∧ Below w.heap.size w w' := by
  obtain ⟨ka, ia, na, ALa, nla, cla, AKa, nka, cka, rfl, _⟩ := TmP.open_ (TmP.of t vt hvt)
  obtain ⟨kb, ib, nb, ALb, nlb, clb, AKb, nkb, ckb, rfl, _⟩ := TmP.open_ (TmP.of x vx hvx)
  obtain ⟨kc, ic, nc, ALc, nlc, clc, AKc, nkc, ckc, rfl, _⟩ := TmP.open_ (TmP.of y vy hvy)
  have hA := ((TB.new hvt).next (alB _ (.cells #[.int .i64 kb, .int .i64 ib, .string nb, .slice ALb nlb clb, .slice AKb nkb ckb] 25))).next (alB _ (.cells #[.int .i64 kc, .int .i64 ic, .string nc, .slice ALc nlc clc, .slice AKc nkc ckc] 25))
  have hB := (TB.new (k := kb) (i := ib) (nm := nb) (AL := ALb) (nl := nlb) (cl := clb) (AK := AKb) (nk := nkb) (ck := ckb) (tv_next hvx (alB w (.cells #[.int .i64 ka, .int .i64 ia, .string na, .slice ALa nla cla, .slice AKa nka cka] 25)))).next (alB _ (.cells #[.int .i64 kc, .int .i64 ic, .string nc, .slice ALc nlc clc, .slice AKc nkc ckc] 25))
  have hC := TB.new (tv_next (tv_next hvy (alB w (.cells #[.int .i64 ka, .int .i64 ia, .string na, .slice ALa nla cla, .slice AKa nka cka] 25))) (alB (w.alloc (.cells #[.int .i64 ka, .int .i64 ia, .string na, .slice ALa nla cla, .slice AKa nka cka] 25)) (.cells #[.int .i64 kb, .int .i64 ib, .string nb, .slice ALb nlb clb, .slice AKb nkb ckb] 25)))
  have hL := ((((Lw.start hsh hw).next (alB w (.cells #[.int .i64 ka, .int .i64 ia, .string na, .slice ALa nla cla, .slice AKa nka cka] 25))).next (alB _ (.cells #[.int .i64 kb, .int .i64 ib, .string nb, .slice ALb nlb clb, .slice AKb nkb ckb] 25))).next (alB _ (.cells #[.int .i64 kc, .int .i64 ic, .string nc, .slice ALc nlc clc, .slice AKc nkc ckc] 25)))
  simp only [World.size_alloc] at hB hC
  obtain ⟨w0, hw0⟩ : ∃ z, z = ((w.alloc (.cells #[.int .i64 ka, .int .i64 ia, .string na, .slice ALa nla cla, .slice AKa nka cka] 25)).alloc (.cells #[.int .i64 kb, .int .i64 ib, .string nb, .slice ALb nlb clb, .slice AKb nkb ckb] 25)).alloc (.cells #[.int .i64 kc, .int .i64 ic, .string nc, .slice ALc nlc clc, .slice AKc nkc ckc] 25) := ⟨_, rfl⟩
  rw [← hw0] at hA hB hC hL
  have HW0 := Lib.hid hw0
  have A := Lib.hid hA
  have B := Lib.hid hB
  have C := Lib.hid hC
  have LW := Lib.hid hL
  have HWF := Lib.hid (And.intro hwt (And.intro hwx hwy))
  clear hw0 hA hB hC hL hvt hvx hvy hwt hwx hwy hsh hw
  go_enter Tryd.func9, Tryd.ntmps9
  go_upto_region 1 with fail
  rw [← HW0.out]
  clear HW0
  obtain ⟨a0, a1, a2, a3, a4, _, _, _, _, _⟩ := A.out.b5
  obtain ⟨b0, b1, b2, b3, b4, _, _, _, _, _⟩ := B.out.b5
  obtain ⟨c0, c1, c2, c3, c4, _, _, _, _, _⟩ := C.out.b5
  go_wp2_with fail
  refine (good_any [t, x, y] (some ⟨w0.heap.size, 0, none⟩) 3 (w0.heap.size + 1) _ (by simp) (list_ka (A.out.rd (B.out.rd (C.out.rd rfl))) (by simp)) (by simp) (by simpa using HWF.out)).mono ?_
  rintro e w2 ⟨b, rfl, hb, hg⟩
  have A := Lib.hid ((A.out.next (alB _ _)).next hb)
  have B := Lib.hid ((B.out.next (alB _ _)).next hb)
  have C := Lib.hid ((C.out.next (alB _ _)).next hb)
  have LW := Lib.hid ((LW.out.next (alB _ _)).next hb)
  clear hb HWF
  clear a0 a1 a2 a3 a4 b0 b1 b2 b3 b4 c0 c1 c2 c3 c4
  cases b with
  | false =>
    clear hg
    go_wp2_with fail
    refine (awake_any _ LW.out.sh LW.out.pos).mono ?_
    rintro e v1 ⟨rfl, hb⟩
    have LW := Lib.hid (LW.out.next hb)
    clear hb
    go_wp2_with fail
    go_ret
    exact ⟨rfl, LW.out.below⟩
  | true =>
    have HG := Lib.hid (And.intro (hg rfl t (by simp)) (And.intro (hg rfl x (by simp)) (hg rfl y (by simp))))
    clear hg
    obtain ⟨b0, b1, b2, b3, b4, _, _, _, _, _⟩ := B.out.b5
    go_wp2_with fail
    refine (sshift_any x _ 1 0 _ w2 B.out.tv (Nat.le_refl _) (by have := HG.out.2.1.sz; omega) HG.out.2.1.qv (by omega)).mono ?_
    intro e v2 h
    obtain ⟨hb, k2, i2, n2, AL2, nl2, cl2, AK2, nk2, ck2, rfl, ht⟩ := h.tmv
    have A := Lib.hid (A.out.next hb)
    have B := Lib.hid (B.out.next hb)
    have C := Lib.hid (C.out.next hb)
    have LW := Lib.hid (LW.out.next hb)
    have U := Lib.hid (TB.new ht)
    have A := Lib.hid (A.out.next (alB v2 (.cells #[.int .i64 k2, .int .i64 i2, .string n2, .slice AL2 nl2 cl2, .slice AK2 nk2 ck2] 25)))
    have B := Lib.hid (B.out.next (alB v2 (.cells #[.int .i64 k2, .int .i64 i2, .string n2, .slice AL2 nl2 cl2, .slice AK2 nk2 ck2] 25)))
    have C := Lib.hid (C.out.next (alB v2 (.cells #[.int .i64 k2, .int .i64 i2, .string n2, .slice AL2 nl2 cl2, .slice AK2 nk2 ck2] 25)))
    have LW := Lib.hid (LW.out.next (alB v2 (.cells #[.int .i64 k2, .int .i64 i2, .string n2, .slice AL2 nl2 cl2, .slice AK2 nk2 ck2] 25)))
    obtain ⟨w2, hw2⟩ : ∃ x, x = v2.alloc (.cells #[.int .i64 k2, .int .i64 i2, .string n2, .slice AL2 nl2 cl2, .slice AK2 nk2 ck2] 25) := ⟨_, rfl⟩
    rw [← hw2] at A B C U LW
    have HW2 := Lib.hid hw2
    clear h hb ht hw2
    clear b0 b1 b2 b3 b4
    go_upto_region 4 with fail
    rw [← HW2.out]
    clear HW2
    have HU := Lib.hid (shO_small (by_ := 1) (fr := 0) HG.out.2.1.qv)
    obtain ⟨a0, a1, a2, a3, a4, _, _, _, _, _⟩ := A.out.b5
    obtain ⟨u0, u1, u2, u3, u4, _, _, _, _, _⟩ := U.out.b5
    go_wp2_with fail
    refine (subst_any t _ [shO 1 0 x] (some ⟨w2.heap.size, 0, none⟩) 1 _ _ (A.out.next (alB _ _)).tv (list_vs (U.out.rd rfl) (by simp)) (Nat.le_refl _) (LW.out.next (alB _ _)).pos (LW.out.next (alB _ _)).sh (by have := HG.out.1.sz; omega) HG.out.1.qv (by intro q hq; simp only [List.mem_singleton] at hq; subst hq; exact ⟨by have := HU.out.1; omega, HU.out.2⟩) (by simp)).mono ?_
    intro e v3 h
    obtain ⟨hb, k3, i3, n3, AL3, nl3, cl3, AK3, nk3, ck3, rfl, ht⟩ := h.tmv
    have A := Lib.hid ((A.out.next (alB _ _)).next hb)
    have B := Lib.hid ((B.out.next (alB _ _)).next hb)
    have C := Lib.hid ((C.out.next (alB _ _)).next hb)
    have U := Lib.hid ((U.out.next (alB _ _)).next hb)
    have LW := Lib.hid ((LW.out.next (alB _ _)).next hb)
    have D := Lib.hid (TB.new ht)
    have A := Lib.hid (A.out.next (alB v3 (.cells #[.int .i64 k3, .int .i64 i3, .string n3, .slice AL3 nl3 cl3, .slice AK3 nk3 ck3] 25)))
    have B := Lib.hid (B.out.next (alB v3 (.cells #[.int .i64 k3, .int .i64 i3, .string n3, .slice AL3 nl3 cl3, .slice AK3 nk3 ck3] 25)))
    have C := Lib.hid (C.out.next (alB v3 (.cells #[.int .i64 k3, .int .i64 i3, .string n3, .slice AL3 nl3 cl3, .slice AK3 nk3 ck3] 25)))
    have U := Lib.hid (U.out.next (alB v3 (.cells #[.int .i64 k3, .int .i64 i3, .string n3, .slice AL3 nl3 cl3, .slice AK3 nk3 ck3] 25)))
    have LW := Lib.hid (LW.out.next (alB v3 (.cells #[.int .i64 k3, .int .i64 i3, .string n3, .slice AL3 nl3 cl3, .slice AK3 nk3 ck3] 25)))
    obtain ⟨w3, hw3⟩ : ∃ x, x = v3.alloc (.cells #[.int .i64 k3, .int .i64 i3, .string n3, .slice AL3 nl3 cl3, .slice AK3 nk3 ck3] 25) := ⟨_, rfl⟩
    rw [← hw3] at A B C U D LW
    have HW3 := Lib.hid hw3
    clear h hb ht hw3
    clear a0 a1 a2 a3 a4 u0 u1 u2 u3 u4
    go_upto_region 5 with fail
    rw [← HW3.out]
    clear HW3
    have HD := Lib.hid (unO_small (vals := [shO 1 0 x]) (dep := 0) (t := t) (by intro q hq; simp only [List.mem_singleton] at hq; subst hq; exact HU.out.2) HG.out.1.qv)
    obtain ⟨d0, d1, d2, d3, d4, _, _, _, _, _⟩ := D.out.b5
    obtain ⟨c0, c1, c2, c3, c4, _, _, _, _, _⟩ := C.out.b5
    go_wp2_with fail
    refine (subst_any (unO [shO 1 0 x] 0 t) _ [y] (some ⟨w3.heap.size, 0, none⟩) 1 _ _ (D.out.next (alB _ _)).tv (list_vs (C.out.rd rfl) (by simp)) (Nat.le_refl _) (LW.out.next (alB _ _)).pos (LW.out.next (alB _ _)).sh (by have := HD.out.1; omega) HD.out.2 (by intro q hq; simp only [List.mem_singleton] at hq; subst hq; exact ⟨by have := HG.out.2.2.sz; omega, HG.out.2.2.qv⟩) (by simp)).mono ?_
    intro e v4 h
    obtain ⟨hb, k4, i4, n4, AL4, nl4, cl4, AK4, nk4, ck4, rfl, ht⟩ := h.tmv
    have A := Lib.hid ((A.out.next (alB _ _)).next hb)
    have B := Lib.hid ((B.out.next (alB _ _)).next hb)
    have C := Lib.hid ((C.out.next (alB _ _)).next hb)
    have U := Lib.hid ((U.out.next (alB _ _)).next hb)
    have D := Lib.hid ((D.out.next (alB _ _)).next hb)
    have LW := Lib.hid ((LW.out.next (alB _ _)).next hb)
    have E := Lib.hid (TB.new ht)
    have A := Lib.hid (A.out.next (alB v4 (.cells #[.int .i64 k4, .int .i64 i4, .string n4, .slice AL4 nl4 cl4, .slice AK4 nk4 ck4] 25)))
    have B := Lib.hid (B.out.next (alB v4 (.cells #[.int .i64 k4, .int .i64 i4, .string n4, .slice AL4 nl4 cl4, .slice AK4 nk4 ck4] 25)))
    have C := Lib.hid (C.out.next (alB v4 (.cells #[.int .i64 k4, .int .i64 i4, .string n4, .slice AL4 nl4 cl4, .slice AK4 nk4 ck4] 25)))
    have U := Lib.hid (U.out.next (alB v4 (.cells #[.int .i64 k4, .int .i64 i4, .string n4, .slice AL4 nl4 cl4, .slice AK4 nk4 ck4] 25)))
    have D := Lib.hid (D.out.next (alB v4 (.cells #[.int .i64 k4, .int .i64 i4, .string n4, .slice AL4 nl4 cl4, .slice AK4 nk4 ck4] 25)))
    have LW := Lib.hid (LW.out.next (alB v4 (.cells #[.int .i64 k4, .int .i64 i4, .string n4, .slice AL4 nl4 cl4, .slice AK4 nk4 ck4] 25)))
    obtain ⟨w4, hw4⟩ : ∃ x, x = v4.alloc (.cells #[.int .i64 k4, .int .i64 i4, .string n4, .slice AL4 nl4 cl4, .slice AK4 nk4 ck4] 25) := ⟨_, rfl⟩
    rw [← hw4] at A B C U D E LW
    have HW4 := Lib.hid hw4
    clear h hb ht hw4
    clear d0 d1 d2 d3 d4 c0 c1 c2 c3 c4
    go_upto_region 6 with fail
    rw [← HW4.out]
    clear HW4
    obtain ⟨a0, a1, a2, a3, a4, _, _, _, _, _⟩ := A.out.b5
    obtain ⟨b0, b1, b2, b3, b4, _, _, _, _, _⟩ := B.out.b5
    obtain ⟨c0, c1, c2, c3, c4, _, _, _, _, _⟩ := C.out.b5
    go_wp2_with fail
    refine (subst_any t _ [x, y] (some ⟨w4.heap.size, 0, none⟩) 2 _ _ (A.out.next (alB _ _)).tv (list_vs (B.out.rd (C.out.rd rfl)) (by simp)) (Nat.le_refl _) (LW.out.next (alB _ _)).pos (LW.out.next (alB _ _)).sh (by have := HG.out.1.sz; omega) HG.out.1.qv (by intro q hq; simp only [List.mem_cons, List.not_mem_nil, or_false] at hq; rcases hq with rfl | rfl; exact ⟨by have := HG.out.2.1.sz; omega, HG.out.2.1.qv⟩; exact ⟨by have := HG.out.2.2.sz; omega, HG.out.2.2.qv⟩) (by simp)).mono ?_
    intro e v5 h
    obtain ⟨hb, k5, i5, n5, AL5, nl5, cl5, AK5, nk5, ck5, rfl, ht⟩ := h.tmv
    have A := Lib.hid ((A.out.next (alB _ _)).next hb)
    have B := Lib.hid ((B.out.next (alB _ _)).next hb)
    have C := Lib.hid ((C.out.next (alB _ _)).next hb)
    have U := Lib.hid ((U.out.next (alB _ _)).next hb)
    have D := Lib.hid ((D.out.next (alB _ _)).next hb)
    have E := Lib.hid ((E.out.next (alB _ _)).next hb)
    have LW := Lib.hid ((LW.out.next (alB _ _)).next hb)
    have G := Lib.hid (TB.new ht)
    have A := Lib.hid (A.out.next (alB v5 (.cells #[.int .i64 k5, .int .i64 i5, .string n5, .slice AL5 nl5 cl5, .slice AK5 nk5 ck5] 25)))
    have B := Lib.hid (B.out.next (alB v5 (.cells #[.int .i64 k5, .int .i64 i5, .string n5, .slice AL5 nl5 cl5, .slice AK5 nk5 ck5] 25)))
    have C := Lib.hid (C.out.next (alB v5 (.cells #[.int .i64 k5, .int .i64 i5, .string n5, .slice AL5 nl5 cl5, .slice AK5 nk5 ck5] 25)))
    have U := Lib.hid (U.out.next (alB v5 (.cells #[.int .i64 k5, .int .i64 i5, .string n5, .slice AL5 nl5 cl5, .slice AK5 nk5 ck5] 25)))
    have D := Lib.hid (D.out.next (alB v5 (.cells #[.int .i64 k5, .int .i64 i5, .string n5, .slice AL5 nl5 cl5, .slice AK5 nk5 ck5] 25)))
    have E := Lib.hid (E.out.next (alB v5 (.cells #[.int .i64 k5, .int .i64 i5, .string n5, .slice AL5 nl5 cl5, .slice AK5 nk5 ck5] 25)))
    have LW := Lib.hid (LW.out.next (alB v5 (.cells #[.int .i64 k5, .int .i64 i5, .string n5, .slice AL5 nl5 cl5, .slice AK5 nk5 ck5] 25)))
    obtain ⟨w5, hw5⟩ : ∃ x, x = v5.alloc (.cells #[.int .i64 k5, .int .i64 i5, .string n5, .slice AL5 nl5 cl5, .slice AK5 nk5 ck5] 25) := ⟨_, rfl⟩
    rw [← hw5] at A B C U D E G LW
    have HW5 := Lib.hid hw5
    clear h hb ht hw5
    clear a0 a1 a2 a3 a4 b0 b1 b2 b3 b4 c0 c1 c2 c3 c4
    go_upto_region 7 with fail
    rw [← HW5.out]
    clear HW5
    have HS := Lib.hid (show shE 1 0 x = 0 → unE [shO 1 0 x] 0 t = 0 → unE [y] 0 (unO [shO 1 0 x] 0 t) = 0 → unE [x, y] 0 t = 0 → unO [y] 0 (unO [shO 1 0 x] 0 t) = unO [x, y] 0 t from fun h1 h2 h3 h4 => tw_same HG.out.1 HG.out.2.1 h1 h2 h3 h4)
    clear HU HD HG A B C U D
    generalize unO [y] 0 (unO [shO 1 0 x] 0 t) = o3 at *
    generalize unE [y] 0 (unO [shO 1 0 x] 0 t) = e3 at *
    generalize unO [x, y] 0 t = o4 at *
    generalize unE [x, y] 0 t = e4 at *
    generalize unE [shO 1 0 x] 0 t = e2 at *
    generalize shE 1 0 x = e1 at *
    by_cases h1 : e1 = 0
    case' neg => have d1 : (e1 == 0) = false := by simpa using h1
    case' pos =>
      by_cases h2 : e2 = 0
      case' neg => have d2 : (e2 == 0) = false := by simpa using h2
      case' pos =>
        by_cases h3 : e3 = 0
        case' neg => have d3 : (e3 == 0) = false := by simpa using h3
        case' pos =>
          by_cases h4 : e4 = 0
          case' neg => have d4 : (e4 == 0) = false := by simpa using h4
          case' pos =>
            have HO := Lib.hid (HS.out h1 h2 h3 h4)
    · clear HS
      subst h1 h2 h3 h4
      obtain ⟨e0, e1, e2, e3, e4, _, _, _, _, _⟩ := E.out.b5
      obtain ⟨g0, g1, g2, g3, g4, _, _, _, _, _⟩ := G.out.b5
      go_wp2_with fail
      have hv := E.out.tv
      rw [HO.out] at hv
      refine (rsameT_any (szT o4) o4 o4 _ _ _ w5 (Nat.le_refl _) hv G.out.tv (Nat.le_refl _)).mono ?_
      rw [sameT_self]
      rintro e w9 ⟨rfl, hb⟩
      have LW := Lib.hid (LW.out.next hb)
      clear hb hv
      clear e0 e1 e2 e3 e4 g0 g1 g2 g3 g4
      go_wp2_with fail
      refine (awake_any _ LW.out.sh LW.out.pos).mono ?_
      rintro e v6 ⟨rfl, hb⟩
      have LW := Lib.hid (LW.out.next hb)
      clear hb
      go_wp2_with fail
      go_ret
      exact ⟨rfl, LW.out.below⟩
    all_goals
      clear HS
      go_wp2_with fail
      refine (awake_any _ LW.out.sh LW.out.pos).mono ?_
      rintro e v16 ⟨rfl, hb⟩
      have LW := Lib.hid (LW.out.next hb)
      clear hb
      go_wp2_with fail
      go_ret
      exact ⟨rfl, LW.out.below⟩
end Go.Proofs.YtobaeeobfcffoaaDoor
