/- The law SubstBack. -/
import Derived.Test.YtobaeeobfcffoaaDoorBkp
import Derived.Test.YtobaeeobfcffoaaDoorVsl
namespace Go.Proofs.YtobaeeobfcffoaaDoor
open Go.RowKit

theorem dp_200 {t : Tm} (h : szT t ≤ 200) : ¬ 200 < dpT t := by have := dpT_le t; omega
theorem bk_un {t : Tm} {vals : List Tm} (ht : GoodT t) (h : shE vals.length 0 t = 0) : unE vals 0 (shO vals.length 0 t) = 0 ∧ unO vals 0 (shO vals.length 0 t) = t := by
  obtain ⟨h1, h2⟩ := shE_zero h
  have hb := back_t vals t 0 ht.wv h2
  have hz := ht.sz
  rw [h1]
  have e : unE vals 0 (cpT (shR vals.length 0) t 0).t = 0 := by
    unfold unE errO
    rw [hb, if_neg (by omega)]
    show (if (if 4096 < szT t then (5 : Int) else 0) = 0 ∧ 200 < dpT t then (7 : Int) else if 4096 < szT t then 5 else 0) = 0
    rw [if_neg (fun e => dp_200 hz e.2), if_neg (by omega)]
  refine ⟨e, ?_⟩
  unfold unO
  rw [if_pos e, hb]
theorem cnt_ab (part : Tm) : Cnt (absP part) := by
  intro t d x h he
  unfold absP at h
  split at h
  · injection h with h
    rw [← h]
    exact (szT_vr _).symm
  · exact cnt_sh 1 0 t d x h he
theorem ab_qv {part t : Tm} {d : Nat} (h : AllT Qv t d) (he : (cpT (absP part) t d).e = 0) : AllT Qv (cpT (absP part) t d).t d := by
  refine cp_all (c := 0) (Q := Qv) (fun t d x hq hr hx => ?_) (fun k i nm ls ks ks' d hq _ _ => hq) t d h he
  unfold absP at hr
  split at hr
  · injection hr with hr
    subst hr
    have h1 : (d : Int) ≤ 65535 := big_zero hx
    exact qv_vr' _ _ ⟨by omega, by omega⟩
  · cases t with
    | mk k i nm ls ks =>
      simp only [shR] at hr
      split at hr
      · injection hr with hr
        subst hr
        have hx' := er_eq_zero.1 hx
        exact qv_vr' _ _ ⟨by omega, by have := big_zero hx'.2; omega⟩
      · cases hr
theorem ab_un {t part : Tm} (ht : GoodT t) (h : errO (cpT (absP part) t 0) = 0) : szT (resO (cpT (absP part) t 0)) ≤ 4096 ∧ AllT Qv (resO (cpT (absP part) t 0)) 0 ∧ unE [part] 0 (resO (cpT (absP part) t 0)) = 0 ∧ unO [part] 0 (resO (cpT (absP part) t 0)) = t ∧ decide (Occ 0 (resO (cpT (absP part) t 0))) = decide (0 < abN part t) := by
  obtain ⟨h1, h2⟩ := errO_zero h
  have er : resO (cpT (absP part) t 0) = (cpT (absP part) t 0).t := by unfold resO; rw [if_pos h]
  have en : abN part t = (cpT (absP part) t 0).f := by unfold abN; rw [if_pos h]
  rw [er, en]
  have hz := ht.sz
  have hb := ab_t part t 0 ht.wv h2
  have e : unE [part] 0 (cpT (absP part) t 0).t = 0 := by
    unfold unE errO
    rw [hb, if_neg (by omega)]
    show (if (if 4096 < szT t then (5 : Int) else 0) = 0 ∧ 200 < dpT t then (7 : Int) else if 4096 < szT t then 5 else 0) = 0
    rw [if_neg (fun e => dp_200 hz e.2), if_neg (by omega)]
  refine ⟨by rw [← cp_sz (cnt_ab part) t 0 h2]; exact h1, ab_qv ht.qv h2, e, ?_, ?_⟩
  · unfold unO
    rw [if_pos e, hb]
  · have ho := ab_occ part t 0 1 ht.wv (by omega) h2
    exact decide_eq_decide.2 ho.symm
set_option maxRecDepth 100000 in
set_option maxHeartbeats 16000000 in
theorem substBack_any (t part : Tm) (vals : List Tm) (vt vp : Value) (AV : Option Addr) (cv : Nat) (w : World) (hvt : TmV w w.heap.size t vt) (hvp : TmV w w.heap.size part vp) (hvs : VsV w w.heap.size AV vals) (hwt : WfT t) (hwp : WfT part) (hwv : ∀ x ∈ vals, WfT x) (hsh : Shapes w) (hw : 0 < w.heap.size) : Calls Tryd.prog 8 #[vt, vp, .slice AV vals.length cv] w fun e w' => e = .returned (.bool true) ∧ Below w.heap.size w w' := by
  obtain ⟨ka, ia, na, ALa, nla, cla, AKa, nka, cka, rfl, _⟩ := TmP.open_ (TmP.of t vt hvt)
  obtain ⟨kb, ib, nb, ALb, nlb, clb, AKb, nkb, ckb, rfl, _⟩ := TmP.open_ (TmP.of part vp hvp)
  have hA := (TB.new hvt).next (alB _ (.cells #[.int .i64 kb, .int .i64 ib, .string nb, .slice ALb nlb clb, .slice AKb nkb ckb] 25))
  have hB := TB.new (tv_next hvp (alB w (.cells #[.int .i64 ka, .int .i64 ia, .string na, .slice ALa nla cla, .slice AKa nka cka] 25)))
  have hV := ((Vh.next (B := w.heap.size) (AV := AV) (vals := vals) ⟨hvs, Nat.le_refl _⟩ (alB w (.cells #[.int .i64 ka, .int .i64 ia, .string na, .slice ALa nla cla, .slice AKa nka cka] 25))).next (alB _ (.cells #[.int .i64 kb, .int .i64 ib, .string nb, .slice ALb nlb clb, .slice AKb nkb ckb] 25)))
  have hL := (((Lw.start hsh hw).next (alB w (.cells #[.int .i64 ka, .int .i64 ia, .string na, .slice ALa nla cla, .slice AKa nka cka] 25))).next (alB _ (.cells #[.int .i64 kb, .int .i64 ib, .string nb, .slice ALb nlb clb, .slice AKb nkb ckb] 25)))
  simp only [World.size_alloc] at hB
  obtain ⟨w0, hw0⟩ : ∃ z, z = (w.alloc (.cells #[.int .i64 ka, .int .i64 ia, .string na, .slice ALa nla cla, .slice AKa nka cka] 25)).alloc (.cells #[.int .i64 kb, .int .i64 ib, .string nb, .slice ALb nlb clb, .slice AKb nkb ckb] 25) := ⟨_, rfl⟩
  rw [← hw0] at hA hB hV hL
  have HW0 := Lib.hid hw0
  have A := Lib.hid hA
  have B := Lib.hid hB
  have V := Lib.hid hV
  have LW := Lib.hid hL
  have HWF := Lib.hid (And.intro hwt (And.intro hwp hwv))
  clear hw0 hA hB hV hL hvt hvp hvs hwt hwp hwv hsh hw
  go_enter Tryd.func8, Tryd.ntmps8
  go_upto_region 1 with fail
  rw [← HW0.out]
  clear HW0
  obtain ⟨a0, a1, a2, a3, a4, _, _, _, _, _⟩ := A.out.b5
  obtain ⟨b0, b1, b2, b3, b4, _, _, _, _, _⟩ := B.out.b5
  go_wp2_with fail
  refine (good_any [t, part] (some ⟨w0.heap.size, 0, none⟩) 2 (w0.heap.size + 1) _ (by simp) (list_ka (A.out.rd (B.out.rd rfl)) (by simp)) (by simp) (by simpa using And.intro HWF.out.1 HWF.out.2.1)).mono ?_
  rintro e w2 ⟨b, rfl, hb, hg⟩
  have A := Lib.hid ((A.out.next (alB _ _)).next hb)
  have B := Lib.hid ((B.out.next (alB _ _)).next hb)
  have V := Lib.hid ((V.out.next (alB _ _)).next hb)
  have LW := Lib.hid ((LW.out.next (alB _ _)).next hb)
  clear hb
  clear a0 a1 a2 a3 a4 b0 b1 b2 b3 b4
  cases b with
  | false =>
    clear hg
    go_wp2_with fail
    refine (awake_any _ LW.out.sh LW.out.pos).mono ?_
    rintro e v1 ⟨rfl, hb⟩
    have LW := Lib.hid (LW.out.next hb)
    clear hb
    go_wp2_with fail
    go_ret
    exact ⟨rfl, LW.out.below⟩
  | true =>
    have HGT := Lib.hid (hg rfl t (by simp))
    have HGP := Lib.hid (hg rfl part (by simp))
    clear hg
    by_cases h8 : 8 < vals.length
    · have d8 : decide ((8 : Int) < (vals.length : Int)) = true := decide_eq_true (by omega)
      go_wp2_with fail
      refine (awake_any _ LW.out.sh LW.out.pos).mono ?_
      rintro e v2 ⟨rfl, hb⟩
      have LW := Lib.hid (LW.out.next hb)
      clear hb
      go_wp2_with fail
      go_ret
      exact ⟨rfl, LW.out.below⟩
    have d8 : decide ((8 : Int) < (vals.length : Int)) = false := decide_eq_false (by omega)
    go_wp2_with fail
    refine (good_any vals AV cv w2.heap.size w2 V.out.ka.2 V.out.ka.1 (Nat.le_refl _) HWF.out.2.2).mono ?_
    rintro e w3 ⟨b, rfl, hb, hg⟩
    have A := Lib.hid (A.out.next hb)
    have B := Lib.hid (B.out.next hb)
    have V := Lib.hid (V.out.next hb)
    have LW := Lib.hid (LW.out.next hb)
    clear hb
    cases b with
    | false =>
      clear hg
      go_wp2_with fail
      refine (awake_any _ LW.out.sh LW.out.pos).mono ?_
      rintro e v3 ⟨rfl, hb⟩
      have LW := Lib.hid (LW.out.next hb)
      clear hb
      go_wp2_with fail
      go_ret
      exact ⟨rfl, LW.out.below⟩
    | true =>
      have HGV := Lib.hid (hg rfl)
      clear hg
      obtain ⟨a0, a1, a2, a3, a4, _, _, _, _, _⟩ := A.out.b5
      go_wp2_with fail
      refine (sshift_any t _ vals.length 0 _ w3 A.out.tv (Nat.le_refl _) (by have := HGT.out.sz; omega) HGT.out.qv (by omega)).mono ?_
      intro e v4 h
      obtain ⟨hb, k4, i4, n4, AL4, nl4, cl4, AK4, nk4, ck4, rfl, ht⟩ := h.tmv
      have A := Lib.hid (A.out.next hb)
      have B := Lib.hid (B.out.next hb)
      have V := Lib.hid (V.out.next hb)
      have LW := Lib.hid (LW.out.next hb)
      have C := Lib.hid (TB.new ht)
      have A := Lib.hid (A.out.next (alB v4 (.cells #[.int .i64 k4, .int .i64 i4, .string n4, .slice AL4 nl4 cl4, .slice AK4 nk4 ck4] 25)))
      have B := Lib.hid (B.out.next (alB v4 (.cells #[.int .i64 k4, .int .i64 i4, .string n4, .slice AL4 nl4 cl4, .slice AK4 nk4 ck4] 25)))
      have V := Lib.hid (V.out.next (alB v4 (.cells #[.int .i64 k4, .int .i64 i4, .string n4, .slice AL4 nl4 cl4, .slice AK4 nk4 ck4] 25)))
      have LW := Lib.hid (LW.out.next (alB v4 (.cells #[.int .i64 k4, .int .i64 i4, .string n4, .slice AL4 nl4 cl4, .slice AK4 nk4 ck4] 25)))
      obtain ⟨w4, hw4⟩ : ∃ x, x = v4.alloc (.cells #[.int .i64 k4, .int .i64 i4, .string n4, .slice AL4 nl4 cl4, .slice AK4 nk4 ck4] 25) := ⟨_, rfl⟩
      rw [← hw4] at A B V C LW
      have HW4 := Lib.hid hw4
      clear h hb ht hw4
      clear a0 a1 a2 a3 a4
      go_upto_region 4 with fail
      rw [← HW4.out]
      clear HW4
      have HC := Lib.hid (shO_small (by_ := vals.length) (fr := 0) HGT.out.qv)
      by_cases h1 : shE vals.length 0 t = 0
      case' neg =>
        have d1 : (shE vals.length 0 t == 0) = false := by simpa using h1
        go_upto_region 8 with fail
      case' pos =>
        have d1 : (shE vals.length 0 t == 0) = true := by simpa using h1
        have HU := Lib.hid (bk_un HGT.out h1)
        obtain ⟨c0, c1, c2, c3, c4, _, _, _, _, _⟩ := C.out.b5
        go_wp2_with fail
        refine (subst_any (shO vals.length 0 t) _ vals AV cv _ w4 C.out.tv V.out.all (Nat.le_refl _) LW.out.pos LW.out.sh (by have := HC.out.1; omega) HC.out.2 (fun x hx => ⟨by have := (HGV.out x hx).sz; omega, (HGV.out x hx).qv⟩) (by omega)).mono ?_
        rw [HU.out.1, HU.out.2]
        intro e v5 h
        obtain ⟨hb, k5, i5, n5, AL5, nl5, cl5, AK5, nk5, ck5, rfl, ht⟩ := h.tmv
        have A := Lib.hid (A.out.next hb)
        have B := Lib.hid (B.out.next hb)
        have V := Lib.hid (V.out.next hb)
        have C := Lib.hid (C.out.next hb)
        have LW := Lib.hid (LW.out.next hb)
        have D := Lib.hid (TB.new ht)
        have A := Lib.hid (A.out.next (alB v5 (.cells #[.int .i64 k5, .int .i64 i5, .string n5, .slice AL5 nl5 cl5, .slice AK5 nk5 ck5] 25)))
        have B := Lib.hid (B.out.next (alB v5 (.cells #[.int .i64 k5, .int .i64 i5, .string n5, .slice AL5 nl5 cl5, .slice AK5 nk5 ck5] 25)))
        have V := Lib.hid (V.out.next (alB v5 (.cells #[.int .i64 k5, .int .i64 i5, .string n5, .slice AL5 nl5 cl5, .slice AK5 nk5 ck5] 25)))
        have C := Lib.hid (C.out.next (alB v5 (.cells #[.int .i64 k5, .int .i64 i5, .string n5, .slice AL5 nl5 cl5, .slice AK5 nk5 ck5] 25)))
        have LW := Lib.hid (LW.out.next (alB v5 (.cells #[.int .i64 k5, .int .i64 i5, .string n5, .slice AL5 nl5 cl5, .slice AK5 nk5 ck5] 25)))
        obtain ⟨w5, hw5⟩ : ∃ x, x = v5.alloc (.cells #[.int .i64 k5, .int .i64 i5, .string n5, .slice AL5 nl5 cl5, .slice AK5 nk5 ck5] 25) := ⟨_, rfl⟩
        rw [← hw5] at A B V C D LW
        have HW5 := Lib.hid hw5
        clear h hb ht hw5
        clear c0 c1 c2 c3 c4
        go_upto_region 6 with fail
        rw [← HW5.out]
        clear HW5
        obtain ⟨a0, a1, a2, a3, a4, _, _, _, _, _⟩ := A.out.b5
        obtain ⟨d0, d1, d2, d3, d4, _, _, _, _, _⟩ := D.out.b5
        go_wp2_with fail
        refine (rsameT_any (szT t) t t _ _ _ w5 (Nat.le_refl _) D.out.tv A.out.tv (Nat.le_refl _)).mono ?_
        rw [sameT_self]
        rintro e w4 ⟨rfl, hb⟩
        have A := Lib.hid (A.out.next hb)
        have B := Lib.hid (B.out.next hb)
        have V := Lib.hid (V.out.next hb)
        have C := Lib.hid (C.out.next hb)
        have D := Lib.hid (D.out.next hb)
        have LW := Lib.hid (LW.out.next hb)
        clear hb
        clear a0 a1 a2 a3 a4 d0 d1 d2 d3 d4
        go_upto_region 8 with fail
      all_goals
        clear d1 h1 HC
        obtain ⟨a0, a1, a2, a3, a4, _, _, _, _, _⟩ := A.out.b5
        obtain ⟨b0, b1, b2, b3, b4, _, _, _, _, _⟩ := B.out.b5
        go_wp2_with fail
        refine (abstract_any t part _ _ _ w4 A.out.tv B.out.tv (Nat.le_refl _) (by have := HGT.out.sz; omega) HGT.out.qv (by have := HGP.out.sz; omega) HGP.out.qv).mono ?_
        rintro e v6 ⟨hb, k6, i6, n6, AL6, nl6, cl6, AK6, nk6, ck6, rfl, ht⟩
        have A := Lib.hid (A.out.next hb)
        have B := Lib.hid (B.out.next hb)
        have V := Lib.hid (V.out.next hb)
        have C := Lib.hid (C.out.next hb)
        have LW := Lib.hid (LW.out.next hb)
        have G := Lib.hid (TB.new ht)
        have A := Lib.hid (A.out.next (alB v6 (.cells #[.int .i64 k6, .int .i64 i6, .string n6, .slice AL6 nl6 cl6, .slice AK6 nk6 ck6] 25)))
        have B := Lib.hid (B.out.next (alB v6 (.cells #[.int .i64 k6, .int .i64 i6, .string n6, .slice AL6 nl6 cl6, .slice AK6 nk6 ck6] 25)))
        have V := Lib.hid (V.out.next (alB v6 (.cells #[.int .i64 k6, .int .i64 i6, .string n6, .slice AL6 nl6 cl6, .slice AK6 nk6 ck6] 25)))
        have C := Lib.hid (C.out.next (alB v6 (.cells #[.int .i64 k6, .int .i64 i6, .string n6, .slice AL6 nl6 cl6, .slice AK6 nk6 ck6] 25)))
        have LW := Lib.hid (LW.out.next (alB v6 (.cells #[.int .i64 k6, .int .i64 i6, .string n6, .slice AL6 nl6 cl6, .slice AK6 nk6 ck6] 25)))
        obtain ⟨w6, hw6⟩ : ∃ x, x = v6.alloc (.cells #[.int .i64 k6, .int .i64 i6, .string n6, .slice AL6 nl6 cl6, .slice AK6 nk6 ck6] 25) := ⟨_, rfl⟩
        rw [← hw6] at A B V C G LW
        have HW6 := Lib.hid hw6
        clear hb ht hw6
        clear a0 a1 a2 a3 a4 b0 b1 b2 b3 b4
        go_upto_region 9 with fail
        rw [← HW6.out]
        clear HW6
        by_cases h2 : errO (cpT (absP part) t 0) = 0
        · have d2 : (errO (cpT (absP part) t 0) == 0) = true := by simpa using h2
          have HAB := Lib.hid (ab_un (part := part) HGT.out h2)
          obtain ⟨g0, g1, g2, g3, g4, _, _, _, _, _⟩ := G.out.b5
          obtain ⟨b0, b1, b2, b3, b4, _, _, _, _, _⟩ := B.out.b5
          go_wp2_with fail
          refine (subst_any (resO (cpT (absP part) t 0)) _ [part] (some ⟨w6.heap.size, 0, none⟩) 1 _ _ (G.out.next (alB _ _)).tv (list_vs (B.out.rd rfl) (by simp)) (Nat.le_refl _) (LW.out.next (alB _ _)).pos (LW.out.next (alB _ _)).sh (by have := HAB.out.1; omega) HAB.out.2.1 (by intro q hq; simp only [List.mem_singleton] at hq; subst hq; exact ⟨by have := HGP.out.sz; omega, HGP.out.qv⟩) (by simp)).mono ?_
          rw [HAB.out.2.2.1, HAB.out.2.2.2.1]
          intro e v7 h
          obtain ⟨hb, k7, i7, n7, AL7, nl7, cl7, AK7, nk7, ck7, rfl, ht⟩ := h.tmv
          have A := Lib.hid ((A.out.next (alB _ _)).next hb)
          have B := Lib.hid ((B.out.next (alB _ _)).next hb)
          have V := Lib.hid ((V.out.next (alB _ _)).next hb)
          have C := Lib.hid ((C.out.next (alB _ _)).next hb)
          have G := Lib.hid ((G.out.next (alB _ _)).next hb)
          have LW := Lib.hid ((LW.out.next (alB _ _)).next hb)
          have D := Lib.hid (TB.new ht)
          have A := Lib.hid (A.out.next (alB v7 (.cells #[.int .i64 k7, .int .i64 i7, .string n7, .slice AL7 nl7 cl7, .slice AK7 nk7 ck7] 25)))
          have B := Lib.hid (B.out.next (alB v7 (.cells #[.int .i64 k7, .int .i64 i7, .string n7, .slice AL7 nl7 cl7, .slice AK7 nk7 ck7] 25)))
          have V := Lib.hid (V.out.next (alB v7 (.cells #[.int .i64 k7, .int .i64 i7, .string n7, .slice AL7 nl7 cl7, .slice AK7 nk7 ck7] 25)))
          have C := Lib.hid (C.out.next (alB v7 (.cells #[.int .i64 k7, .int .i64 i7, .string n7, .slice AL7 nl7 cl7, .slice AK7 nk7 ck7] 25)))
          have G := Lib.hid (G.out.next (alB v7 (.cells #[.int .i64 k7, .int .i64 i7, .string n7, .slice AL7 nl7 cl7, .slice AK7 nk7 ck7] 25)))
          have LW := Lib.hid (LW.out.next (alB v7 (.cells #[.int .i64 k7, .int .i64 i7, .string n7, .slice AL7 nl7 cl7, .slice AK7 nk7 ck7] 25)))
          obtain ⟨w7, hw7⟩ : ∃ x, x = v7.alloc (.cells #[.int .i64 k7, .int .i64 i7, .string n7, .slice AL7 nl7 cl7, .slice AK7 nk7 ck7] 25) := ⟨_, rfl⟩
          rw [← hw7] at A B V C G D LW
          have HW7 := Lib.hid hw7
          clear h hb ht hw7
          clear g0 g1 g2 g3 g4 b0 b1 b2 b3 b4
          go_upto_region 12 with fail
          rw [← HW7.out]
          clear HW7
          have hn0 : decide ((0 : Int) ≤ (abN part t : Nat)) = true := decide_eq_true (by omega)
          have HOC := Lib.hid HAB.out.2.2.2.2
          have HCZ := Lib.hid HAB.out.1
          obtain ⟨a0, a1, a2, a3, a4, _, _, _, _, _⟩ := A.out.b5
          obtain ⟨d0, d1, d2, d3, d4, _, _, _, _, _⟩ := D.out.b5
          obtain ⟨g0, g1, g2, g3, g4, _, _, _, _, _⟩ := G.out.b5
          go_wp2_with fail
          refine (rsameT_any (szT t) t t _ _ _ w7 (Nat.le_refl _) D.out.tv A.out.tv (Nat.le_refl _)).mono ?_
          rw [sameT_self]
          rintro e w8 ⟨rfl, hb⟩
          have A := Lib.hid (A.out.next hb)
          have B := Lib.hid (B.out.next hb)
          have V := Lib.hid (V.out.next hb)
          have C := Lib.hid (C.out.next hb)
          have G := Lib.hid (G.out.next hb)
          have D := Lib.hid (D.out.next hb)
          have LW := Lib.hid (LW.out.next hb)
          clear hb
          clear a0 a1 a2 a3 a4 d0 d1 d2 d3 d4 g0 g1 g2 g3 g4
          obtain ⟨g0, g1, g2, g3, g4, _, _, _, _, _⟩ := G.out.b5
          go_wp2_with fail
          refine (occurs_any (resO (cpT (absP part) t 0)) _ 0 _ w8 G.out.tv (Nat.le_refl _) LW.out.pos LW.out.sh (by have := HCZ.out; omega)).mono ?_
          rw [HOC.out]
          rintro e w9 ⟨rfl, hb⟩
          have hbb : (decide (0 < abN part t) == decide (0 < abN part t)) = true := beq_self_eq_true _
          generalize decide (0 < abN part t) = bz at *
          have A := Lib.hid (A.out.next hb)
          have B := Lib.hid (B.out.next hb)
          have V := Lib.hid (V.out.next hb)
          have C := Lib.hid (C.out.next hb)
          have G := Lib.hid (G.out.next hb)
          have D := Lib.hid (D.out.next hb)
          have LW := Lib.hid (LW.out.next hb)
          clear hb
          clear g0 g1 g2 g3 g4
          go_wp2_with fail
          refine (awake_any _ LW.out.sh LW.out.pos).mono ?_
          rintro e v8 ⟨rfl, hb⟩
          have LW := Lib.hid (LW.out.next hb)
          clear hb
          go_wp2_with fail
          go_ret
          exact ⟨rfl, LW.out.below⟩
        · have d2 : (errO (cpT (absP part) t 0) == 0) = false := by simpa using h2
          have HN0 := Lib.hid (show abN part t = 0 by unfold abN; rw [if_neg h2])
          rw [HN0.out]
          go_wp2_with fail
          refine (awake_any _ LW.out.sh LW.out.pos).mono ?_
          rintro e v9 ⟨rfl, hb⟩
          have LW := Lib.hid (LW.out.next hb)
          clear hb
          go_wp2_with fail
          go_ret
          exact ⟨rfl, LW.out.below⟩
end Go.Proofs.YtobaeeobfcffoaaDoor
