/- The law SubstReplaces. -/
import Derived.Test.YtobaeeobfcffoaaDoorRup
import Derived.Test.YtobaeeobfcffoaaDoorVsl
namespace Go.Proofs.YtobaeeobfcffoaaDoor
open Go.RowKit

set_option maxRecDepth 100000 in
set_option maxHeartbeats 16000000 in
theorem substReplaces_any (t : Tm) (vals : List Tm) (dep : Int) (vt : Value) (AV : Option Addr) (cv : Nat) (w : World) (hvt : TmV w w.heap.size t vt) (hvs : VsV w w.heap.size AV vals) (hwt : WfT t) (hwv : ∀ x ∈ vals, WfT x) (hdep : -9223372036854775808 ≤ dep ∧ dep ≤ 9223372036854775807) (hsh : Shapes w) (hw : 0 < w.heap.size) : Calls Tryd.prog 4 #[vt, .slice AV vals.length cv, .int .i64 dep] w fun e w' => e = .returned (.bool true) ∧ Below w.heap.size w w' := by
  obtain ⟨ka, ia, na, ALa, nla, cla, AKa, nka, cka, rfl, _⟩ := TmP.open_ (TmP.of t vt hvt)
  have hA := TB.new hvt
  have hV := (Vh.next (B := w.heap.size) (AV := AV) (vals := vals) ⟨hvs, Nat.le_refl _⟩ (alB w (.cells #[.int .i64 ka, .int .i64 ia, .string na, .slice ALa nla cla, .slice AKa nka cka] 25)))
  have hL := (Lw.start hsh hw).next (alB w (.cells #[.int .i64 ka, .int .i64 ia, .string na, .slice ALa nla cla, .slice AKa nka cka] 25))
  obtain ⟨w0, hw0⟩ : ∃ z, z = w.alloc (.cells #[.int .i64 ka, .int .i64 ia, .string na, .slice ALa nla cla, .slice AKa nka cka] 25) := ⟨_, rfl⟩
  rw [← hw0] at hA hV hL
  have HW0 := Lib.hid hw0
  have A := Lib.hid hA
  have V := Lib.hid hV
  have LW := Lib.hid hL
  have HWF := Lib.hid (And.intro hwt hwv)
  clear hw0 hA hV hL hvt hvs hwt hwv hsh hw
  go_enter Tryd.func4, Tryd.ntmps4
  go_upto_region 1 with fail
  rw [← HW0.out]
  clear HW0
  obtain ⟨a0, a1, a2, a3, a4, _, _, _, _, _⟩ := A.out.b5
  go_wp2_with fail
  refine (good_any [t] (some ⟨w0.heap.size, 0, none⟩) 1 (w0.heap.size + 1) _ (by simp) (list_ka (A.out.rd rfl) (by simp)) (by simp) (by simpa using HWF.out.1)).mono ?_
  rintro e w2 ⟨b, rfl, hb, hg⟩
  have A := Lib.hid ((A.out.next (alB _ _)).next hb)
  have V := Lib.hid ((V.out.next (alB _ _)).next hb)
  have LW := Lib.hid ((LW.out.next (alB _ _)).next hb)
  clear hb
  clear a0 a1 a2 a3 a4
  cases b with
  | false =>
    clear hg
    go_wp2_with fail
    refine (awake_any _ LW.out.sh LW.out.pos).mono ?_
    rintro e v1 ⟨rfl, hb⟩
    have LW := Lib.hid (LW.out.next hb)
    clear hb
    go_wp2_with fail
    go_ret
    exact ⟨rfl, LW.out.below⟩
  | true =>
    have HGT := Lib.hid (hg rfl t (by simp))
    clear hg
    by_cases h8 : 8 < vals.length
    · have d8 : decide ((8 : Int) < (vals.length : Int)) = true := decide_eq_true (by omega)
      go_wp2_with fail
      refine (awake_any _ LW.out.sh LW.out.pos).mono ?_
      rintro e v2 ⟨rfl, hb⟩
      have LW := Lib.hid (LW.out.next hb)
      clear hb
      go_wp2_with fail
      go_ret
      exact ⟨rfl, LW.out.below⟩
    have d8 : decide ((8 : Int) < (vals.length : Int)) = false := decide_eq_false (by omega)
    go_wp2_with fail
    refine (good_any vals AV cv w2.heap.size w2 V.out.ka.2 V.out.ka.1 (Nat.le_refl _) HWF.out.2).mono ?_
    rintro e w3 ⟨b, rfl, hb, hg⟩
    have A := Lib.hid (A.out.next hb)
    have V := Lib.hid (V.out.next hb)
    have LW := Lib.hid (LW.out.next hb)
    clear hb
    cases b with
    | false =>
      clear hg
      go_wp2_with fail
      refine (awake_any _ LW.out.sh LW.out.pos).mono ?_
      rintro e v3 ⟨rfl, hb⟩
      have LW := Lib.hid (LW.out.next hb)
      clear hb
      go_wp2_with fail
      go_ret
      exact ⟨rfl, LW.out.below⟩
    | true =>
      have HGV := Lib.hid (hg rfl)
      clear hg
      have HVV := Lib.hid (show ∀ x ∈ vals, szT x ≤ 4096 ∧ AllT Qv x 0 from fun x hx => ⟨by have := (HGV.out x hx).sz; omega, (HGV.out x hx).qv⟩)
      have HVW := Lib.hid (show ∀ x ∈ vals, AllT Wg x 0 ∧ AllT Wv x 0 from fun x hx => ⟨(HGV.out x hx).wg, (HGV.out x hx).wv⟩)
      obtain ⟨a0, a1, a2, a3, a4, _, _, _, _, _⟩ := A.out.b5
      go_wp2_with fail
      refine (subst_any t _ vals AV cv _ w3 A.out.tv V.out.all (Nat.le_refl _) LW.out.pos LW.out.sh (by have := HGT.out.sz; omega) HGT.out.qv (fun x hx => ⟨by have := (HVV.out x hx).1; omega, (HVV.out x hx).2⟩) (by omega)).mono ?_
      intro e v4 h
      obtain ⟨hb, k4, i4, n4, AL4, nl4, cl4, AK4, nk4, ck4, rfl, ht⟩ := h.tmv
      have A := Lib.hid (A.out.next hb)
      have V := Lib.hid (V.out.next hb)
      have LW := Lib.hid (LW.out.next hb)
      have C := Lib.hid (TB.new ht)
      have A := Lib.hid (A.out.next (alB v4 (.cells #[.int .i64 k4, .int .i64 i4, .string n4, .slice AL4 nl4 cl4, .slice AK4 nk4 ck4] 25)))
      have V := Lib.hid (V.out.next (alB v4 (.cells #[.int .i64 k4, .int .i64 i4, .string n4, .slice AL4 nl4 cl4, .slice AK4 nk4 ck4] 25)))
      have LW := Lib.hid (LW.out.next (alB v4 (.cells #[.int .i64 k4, .int .i64 i4, .string n4, .slice AL4 nl4 cl4, .slice AK4 nk4 ck4] 25)))
      obtain ⟨w4, hw4⟩ : ∃ x, x = v4.alloc (.cells #[.int .i64 k4, .int .i64 i4, .string n4, .slice AL4 nl4 cl4, .slice AK4 nk4 ck4] 25) := ⟨_, rfl⟩
      rw [← hw4] at A V C LW
      have HW4 := Lib.hid hw4
      clear h hb ht hw4
      clear a0 a1 a2 a3 a4
      go_upto_region 4 with fail
      rw [← HW4.out]
      clear HW4
      obtain ⟨a0, a1, a2, a3, a4, _, _, _, _, _⟩ := A.out.b5
      go_wp2_with fail
      refine (rsubstT_any t _ vals AV cv _ w4 A.out.tv V.out.all (Nat.le_refl _) (by have := HGT.out.sz; omega) HGT.out.qv HVV.out (by omega) (ruS_small HGT.out.wg HVW.out)).mono ?_
      rw [(ru_un HGT.out.wg HVW.out).1, (ru_un HGT.out.wg HVW.out).2]
      intro e v5 h
      obtain ⟨hb, k5, i5, n5, AL5, nl5, cl5, AK5, nk5, ck5, rfl, ht⟩ := h.tmv
      have A := Lib.hid (A.out.next hb)
      have V := Lib.hid (V.out.next hb)
      have C := Lib.hid (C.out.next hb)
      have LW := Lib.hid (LW.out.next hb)
      have D := Lib.hid (TB.new ht)
      have A := Lib.hid (A.out.next (alB v5 (.cells #[.int .i64 k5, .int .i64 i5, .string n5, .slice AL5 nl5 cl5, .slice AK5 nk5 ck5] 25)))
      have V := Lib.hid (V.out.next (alB v5 (.cells #[.int .i64 k5, .int .i64 i5, .string n5, .slice AL5 nl5 cl5, .slice AK5 nk5 ck5] 25)))
      have C := Lib.hid (C.out.next (alB v5 (.cells #[.int .i64 k5, .int .i64 i5, .string n5, .slice AL5 nl5 cl5, .slice AK5 nk5 ck5] 25)))
      have LW := Lib.hid (LW.out.next (alB v5 (.cells #[.int .i64 k5, .int .i64 i5, .string n5, .slice AL5 nl5 cl5, .slice AK5 nk5 ck5] 25)))
      obtain ⟨w5, hw5⟩ : ∃ x, x = v5.alloc (.cells #[.int .i64 k5, .int .i64 i5, .string n5, .slice AL5 nl5 cl5, .slice AK5 nk5 ck5] 25) := ⟨_, rfl⟩
      rw [← hw5] at A V C D LW
      have HW5 := Lib.hid hw5
      clear h hb ht hw5
      clear a0 a1 a2 a3 a4
      go_upto_region 5 with fail
      rw [← HW5.out]
      clear HW5
      obtain ⟨a0, a1, a2, a3, a4, _, _, _, _, _⟩ := A.out.b5
      go_wp2_with fail
      refine (under_any t _ vals AV cv dep _ w5 A.out.tv V.out.all (Nat.le_refl _) LW.out.pos LW.out.sh (by have := HGT.out.sz; omega) HGT.out.qv (fun x hx => ⟨by have := (HVV.out x hx).1; omega, (HVV.out x hx).2⟩) (by omega) hdep.2).mono ?_
      intro e v6 h
      obtain ⟨hb, k6, i6, n6, AL6, nl6, cl6, AK6, nk6, ck6, rfl, ht⟩ := h.tmv
      have A := Lib.hid (A.out.next hb)
      have V := Lib.hid (V.out.next hb)
      have C := Lib.hid (C.out.next hb)
      have D := Lib.hid (D.out.next hb)
      have LW := Lib.hid (LW.out.next hb)
      have E := Lib.hid (TB.new ht)
      have A := Lib.hid (A.out.next (alB v6 (.cells #[.int .i64 k6, .int .i64 i6, .string n6, .slice AL6 nl6 cl6, .slice AK6 nk6 ck6] 25)))
      have V := Lib.hid (V.out.next (alB v6 (.cells #[.int .i64 k6, .int .i64 i6, .string n6, .slice AL6 nl6 cl6, .slice AK6 nk6 ck6] 25)))
      have C := Lib.hid (C.out.next (alB v6 (.cells #[.int .i64 k6, .int .i64 i6, .string n6, .slice AL6 nl6 cl6, .slice AK6 nk6 ck6] 25)))
      have D := Lib.hid (D.out.next (alB v6 (.cells #[.int .i64 k6, .int .i64 i6, .string n6, .slice AL6 nl6 cl6, .slice AK6 nk6 ck6] 25)))
      have LW := Lib.hid (LW.out.next (alB v6 (.cells #[.int .i64 k6, .int .i64 i6, .string n6, .slice AL6 nl6 cl6, .slice AK6 nk6 ck6] 25)))
      obtain ⟨w6, hw6⟩ : ∃ x, x = v6.alloc (.cells #[.int .i64 k6, .int .i64 i6, .string n6, .slice AL6 nl6 cl6, .slice AK6 nk6 ck6] 25) := ⟨_, rfl⟩
      rw [← hw6] at A V C D E LW
      have HW6 := Lib.hid hw6
      clear h hb ht hw6
      clear a0 a1 a2 a3 a4
      go_upto_region 6 with fail
      rw [← HW6.out]
      clear HW6
      obtain ⟨a0, a1, a2, a3, a4, _, _, _, _, _⟩ := A.out.b5
      go_wp2_with fail
      refine (runder_any t _ vals AV cv dep _ w6 A.out.tv V.out.all (Nat.le_refl _) (by have := HGT.out.sz; omega) HGT.out.qv HVV.out (by omega) hdep (ruS_small HGT.out.wg HVW.out)).mono ?_
      rw [(ru_un HGT.out.wg HVW.out).1, (ru_un HGT.out.wg HVW.out).2]
      intro e v7 h
      obtain ⟨hb, k7, i7, n7, AL7, nl7, cl7, AK7, nk7, ck7, rfl, ht⟩ := h.tmv
      have A := Lib.hid (A.out.next hb)
      have V := Lib.hid (V.out.next hb)
      have C := Lib.hid (C.out.next hb)
      have D := Lib.hid (D.out.next hb)
      have E := Lib.hid (E.out.next hb)
      have LW := Lib.hid (LW.out.next hb)
      have G := Lib.hid (TB.new ht)
      have A := Lib.hid (A.out.next (alB v7 (.cells #[.int .i64 k7, .int .i64 i7, .string n7, .slice AL7 nl7 cl7, .slice AK7 nk7 ck7] 25)))
      have V := Lib.hid (V.out.next (alB v7 (.cells #[.int .i64 k7, .int .i64 i7, .string n7, .slice AL7 nl7 cl7, .slice AK7 nk7 ck7] 25)))
      have C := Lib.hid (C.out.next (alB v7 (.cells #[.int .i64 k7, .int .i64 i7, .string n7, .slice AL7 nl7 cl7, .slice AK7 nk7 ck7] 25)))
      have D := Lib.hid (D.out.next (alB v7 (.cells #[.int .i64 k7, .int .i64 i7, .string n7, .slice AL7 nl7 cl7, .slice AK7 nk7 ck7] 25)))
      have E := Lib.hid (E.out.next (alB v7 (.cells #[.int .i64 k7, .int .i64 i7, .string n7, .slice AL7 nl7 cl7, .slice AK7 nk7 ck7] 25)))
      have LW := Lib.hid (LW.out.next (alB v7 (.cells #[.int .i64 k7, .int .i64 i7, .string n7, .slice AL7 nl7 cl7, .slice AK7 nk7 ck7] 25)))
      obtain ⟨w7, hw7⟩ : ∃ x, x = v7.alloc (.cells #[.int .i64 k7, .int .i64 i7, .string n7, .slice AL7 nl7 cl7, .slice AK7 nk7 ck7] 25) := ⟨_, rfl⟩
      rw [← hw7] at A V C D E G LW
      have HW7 := Lib.hid hw7
      clear h hb ht hw7
      clear a0 a1 a2 a3 a4
      go_upto_region 7 with fail
      rw [← HW7.out]
      clear HW7
      clear HGT HGV HVV HVW A V
      generalize unO vals 0 t = o1 at *
      generalize unE vals 0 t = e1 at *
      generalize unO vals dep t = o2 at *
      generalize unE vals dep t = e2 at *
      have b1 : (e1 == e1) = true := beq_self_eq_true _
      have b2 : (e2 == e2) = true := beq_self_eq_true _
      obtain ⟨c0, c1, c2, c3, c4, _, _, _, _, _⟩ := C.out.b5
      obtain ⟨d0, d1, d2, d3, d4, _, _, _, _, _⟩ := D.out.b5
      obtain ⟨e0, e1, e2, e3, e4, _, _, _, _, _⟩ := E.out.b5
      obtain ⟨g0, g1, g2, g3, g4, _, _, _, _, _⟩ := G.out.b5
      go_wp2_with fail
      refine (rsameT_any (szT o1) o1 o1 _ _ _ w7 (Nat.le_refl _) C.out.tv D.out.tv (Nat.le_refl _)).mono ?_
      rw [sameT_self]
      rintro e w8 ⟨rfl, hb⟩
      have C := Lib.hid (C.out.next hb)
      have D := Lib.hid (D.out.next hb)
      have E := Lib.hid (E.out.next hb)
      have G := Lib.hid (G.out.next hb)
      have LW := Lib.hid (LW.out.next hb)
      clear hb
      clear c0 c1 c2 c3 c4 d0 d1 d2 d3 d4 e0 e1 e2 e3 e4 g0 g1 g2 g3 g4
      obtain ⟨e0, e1, e2, e3, e4, _, _, _, _, _⟩ := E.out.b5
      obtain ⟨g0, g1, g2, g3, g4, _, _, _, _, _⟩ := G.out.b5
      go_wp2_with fail
      refine (rsameT_any (szT o2) o2 o2 _ _ _ w8 (Nat.le_refl _) E.out.tv G.out.tv (Nat.le_refl _)).mono ?_
      rw [sameT_self]
      rintro e w9 ⟨rfl, hb⟩
      have C := Lib.hid (C.out.next hb)
      have D := Lib.hid (D.out.next hb)
      have E := Lib.hid (E.out.next hb)
      have G := Lib.hid (G.out.next hb)
      have LW := Lib.hid (LW.out.next hb)
      clear hb
      clear e0 e1 e2 e3 e4 g0 g1 g2 g3 g4
      go_wp2_with fail
      refine (awake_any _ LW.out.sh LW.out.pos).mono ?_
      rintro e v8 ⟨rfl, hb⟩
      have LW := Lib.hid (LW.out.next hb)
      clear hb
      go_wp2_with fail
      go_ret
      exact ⟨rfl, LW.out.below⟩
end Go.Proofs.YtobaeeobfcffoaaDoor
