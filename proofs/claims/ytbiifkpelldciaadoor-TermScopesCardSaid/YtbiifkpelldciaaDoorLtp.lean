/- The law TermParts. -/
import Derived.Test.YtbiifkpelldciaaDoorLme
import Derived.Test.YtbiifkpelldciaaDoorLch
import Derived.Test.YtbiifkpelldciaaDoorPar
namespace Go.Proofs.YtbiifkpelldciaaDoor
open Go.RowKit

theorem len_szL : ∀ (l : List Tm), l.length ≤ szL l
  | [] => by rw [szL]; simp
  | t :: r => by rw [szL, List.length_cons]; have := szT_pos t; have := len_szL r; omega
namespace ScT
variable {w wx wy : World} {B : Nat} {t : Tm} {c0 c1 c2 c3 c4 : Value} {a0 a1 a2 a3 : Int}
theorem nextB (h : ScT w B t c0 c1 c2 c3 c4 a0 a1 a2 a3 wx) {b : Nat} (hb : Below b wx wy) (h1 : w.heap.size + 1 < b) (hB : B ≤ b) : ScT w B t c0 c1 c2 c3 c4 a0 a1 a2 a3 wy := by
  have hk : ∀ (p : Addr) (v : Value), p.block < b → wx.cell? p = some v → wy.cell? p = some v := fun p v hp hv => (hb.cell hp).trans hv
  have hb0 : w.heap.size < b := by omega
  have hp := h.pos
  have hs := hb.size
  exact ⟨hk _ _ hb0 h.x0, hk _ _ hb0 h.x1, hk _ _ hb0 h.x2, hk _ _ hb0 h.x3, hk _ _ hb0 h.x4, hk _ _ h1 h.s0, hk _ _ h1 h.s1, hk _ _ h1 h.s2, hk _ _ h1 h.s3, h.tm.below hb hB, h.sh.below hb (by omega), h.below.trans (hb.mono (by omega)), by have := h.size; omega, by have := h.sz; omega, hp⟩
theorem set0 (h : ScT w B t c0 c1 c2 c3 c4 a0 a1 a2 a3 wx) (hB : B ≤ w.heap.size) (x : Int) : ScT w B t c0 c1 c2 c3 c4 x a1 a2 a3 (wx.setCell ⟨w.heap.size + 1, 0, none⟩ (.int .i64 x)) := by
  have hg := grownBy_setCell' wx (w.heap.size + 1) (.int .i64 x)
  have hb : Below (w.heap.size + 1) wx (wx.setCell ⟨w.heap.size + 1, 0, none⟩ (.int .i64 x)) := (Below.refl _ _).grown hg (by have := h.sz; omega) (fun r e => by cases e; omega)
  have hk : ∀ (p : Addr) (v : Value), p.block < w.heap.size + 1 → wx.cell? p = some v → (wx.setCell ⟨w.heap.size + 1, 0, none⟩ (.int .i64 x)).cell? p = some v := fun p v hp hv => (hb.cell hp).trans hv
  have ho : ∀ (j : Nat) (v : Value), j ≠ 0 → wx.cell? ⟨w.heap.size + 1, j, none⟩ = some v → (wx.setCell ⟨w.heap.size + 1, 0, none⟩ (.int .i64 x)).cell? ⟨w.heap.size + 1, j, none⟩ = some v := fun j v hj hv => (World.cell?_setCell_other _ _ _ _ (by intro e; injection e with _ e _; exact hj e.symm)).trans hv
  exact ⟨hk _ _ (by show w.heap.size < _; omega) h.x0, hk _ _ (by show w.heap.size < _; omega) h.x1, hk _ _ (by show w.heap.size < _; omega) h.x2, hk _ _ (by show w.heap.size < _; omega) h.x3, hk _ _ (by show w.heap.size < _; omega) h.x4, World.cell?_setCell_same _ _ _ h.s0, ho 1 _ (by omega) h.s1, ho 2 _ (by omega) h.s2, ho 3 _ (by omega) h.s3, h.tm.below hb (by omega), h.sh.below hb (by omega), h.below.trans (hb.mono (by omega)), by have := h.size; have := hb.size; omega, by have := h.sz; have := hb.size; omega, h.pos⟩
end ScT
theorem BxT.nextB {w wx wy : World} {B : Nat} {t : Tm} {c0 c1 c2 c3 c4 : Value} (h : BxT w B t c0 c1 c2 c3 c4 wx) {b : Nat} (hb : Below b wx wy) (h1 : w.heap.size < b) (hB : B ≤ b) : BxT w B t c0 c1 c2 c3 c4 wy := by
  have hk : ∀ (p : Addr) (v : Value), p.block < b → wx.cell? p = some v → wy.cell? p = some v := fun p v hp hv => (hb.cell hp).trans hv
  have hs := hb.size
  exact ⟨hk _ _ h1 h.x0, hk _ _ h1 h.x1, hk _ _ h1 h.x2, hk _ _ h1 h.x3, hk _ _ h1 h.x4, h.tm.below hb hB, h.below.trans (hb.mono (by omega)), by have := h.size; omega, by have := h.sz; omega⟩

set_option maxRecDepth 100000 in
set_option maxHeartbeats 8000000 in
theorem termParts_any (t : Tm) (v : Value) (a0 a1 a2 a3 : Int) (w : World) (hv : TmV w w.heap.size t v) (hwf : WfT t) (hsh : Shapes w) (hw : 0 < w.heap.size) : Calls Tryd.prog 10 #[v, .agg #[.int .i64 a0, .int .i64 a1, .int .i64 a2, .int .i64 a3]] w fun e w' => e = .returned (.bool true) ∧ Below w.heap.size w w' := by
  have hv0 := hv
  cases t with
  | mk k i nm ls ks =>
  rw [TmV] at hv
  obtain ⟨AL, cl, AK, ck, rfl, hls, hz, hks⟩ := hv
  have T0 := Lib.hid (ScT.start (a0 := a0) (a1 := a1) (a2 := a2) (a3 := a3) hv0 hsh (Nat.le_refl _) hw)
  have HWF := Lib.hid hwf
  clear hsh hw hv0 hls hks hwf
  obtain ⟨x0, x1, x2, x3, x4, _, _, _, _, _, _, _, _, _, _⟩ := T0.out
  go_enter Tryd.func10, Tryd.ntmps10
  go_wp2_with fail
  have hl := listed_of T0.out.tm T0.out.size
  simp only [World.size_alloc] at hl
  refine (few_any (szL [Tm.mk k i nm ls ks] + 1) [Tm.mk k i nm ls ks] (some ⟨w.heap.size + 1 + 1, 0, none⟩) 1 (w.heap.size + 1 + 1 + 1) _ (by omega) (by simp) hl (by simp)).mono ?_
  rintro e w2 ⟨b, rfl, hb, hf⟩
  have T1 := Lib.hid ((T0.out.next ((Below.refl _ _).alloc (Nat.le_refl _) _)).next hb)
  have f1 : w2.frozen? ⟨w.heap.size + 1, 0, none⟩ = false := (World.frozen?_of_block ((hb.block (w.heap.size + 1) (by simp)).trans (Below.heap_alloc _ _ _ (by simp)))).trans (by go_simp)
  have f1 : w2.frozen? ⟨w.heap.size + 1, 0, none⟩ = false := (World.frozen?_of_block ((hb.block (w.heap.size + 1) (by simp)).trans (Below.heap_alloc _ _ _ (by simp)))).trans (by go_simp)
  have f1 : w2.frozen? ⟨w.heap.size + 1, 0, none⟩ = false := (World.frozen?_of_block ((hb.block (w.heap.size + 1) (by simp)).trans (Below.heap_alloc _ _ _ (by simp)))).trans (by go_simp)
  have f1 : w2.frozen? ⟨w.heap.size + 1, 0, none⟩ = false := (World.frozen?_of_block ((hb.block (w.heap.size + 1) (by simp)).trans (Below.heap_alloc _ _ _ (by simp)))).trans (by go_simp)
  have f1 : w2.frozen? ⟨w.heap.size + 1, 0, none⟩ = false := (World.frozen?_of_block ((hb.block (w.heap.size + 1) (by simp)).trans (Below.heap_alloc _ _ _ (by simp)))).trans (by go_simp)
  have f1 : w2.frozen? ⟨w.heap.size + 1, 0, none⟩ = false := (World.frozen?_of_block ((hb.block (w.heap.size + 1) (by simp)).trans (Below.heap_alloc _ _ _ (by simp)))).trans (by go_simp)
  have f1 : w2.frozen? ⟨w.heap.size + 1, 0, none⟩ = false := (World.frozen?_of_block ((hb.block (w.heap.size + 1) (by simp)).trans (Below.heap_alloc _ _ _ (by simp)))).trans (by go_simp)
  clear x0 x1 x2 x3 x4 hb hl T0
  cases b with
  | false =>
    go_wp2_with fail
    refine (awake_any _ T1.out.sh (by have := T1.out.size; have := T1.out.pos; omega)).mono ?_
    rintro e w3 ⟨rfl, hb3⟩
    have T2 := Lib.hid (T1.out.next hb3)
    clear hb3
    go_wp2_with fail
    go_ret
    exact ⟨rfl, T2.out.below⟩
  | true =>
    have hsz := (hf rfl).sz
    rw [szL, szL, Nat.add_zero] at hsz
    have hdp := dpT_le (.mk k i nm ls ks)
    clear hf
    obtain ⟨x0, x1, x2, x3, x4, s0, s1, s2, s3, _, _, _, _, _, _⟩ := T1.out
    by_cases hbig : 1000 < a0
    · have hbi : decide (1000 < a0) = true := decide_eq_true hbig
      go_wp2_with fail
      refine (awake_any _ T1.out.sh (by have := T1.out.size; have := T1.out.pos; omega)).mono ?_
      rintro e w3 ⟨rfl, hb3⟩
      have T2 := Lib.hid (T1.out.next hb3)
      clear hb3
      go_wp2_with fail
      go_ret
      exact ⟨rfl, T2.out.below⟩
    · have hbi : decide (1000 < a0) = false := decide_eq_false hbig
      go_wp2_with fail
      refine (lcheck_any (.mk k i nm ls ks) _ a0 a1 a2 a3 w.heap.size _ T1.out.tm T1.out.size T1.out.pos T1.out.sh (by omega)).mono ?_
      rintro e w3 ⟨rfl, hb3⟩
      have T2 := Lib.hid (T1.out.next hb3)
      replace f1 := (World.frozen?_of_block (hb3.block (w.heap.size + 1) T1.out.sz)).trans f1
      clear hb3 T1 x0 x1 x2 x3 x4 s0 s1 s2 s3
      obtain ⟨x0, x1, x2, x3, x4, s0, s1, s2, s3, _, _, _, _, _, _⟩ := T2.out
      by_cases hck : chkC a0 a1 a2 a3 (.mk k i nm ls ks) = 0
      · rw [hck]
        have HCK := Lib.hid hck
        clear hck
        have T3 := Lib.hid (T2.out.set0 (Nat.le_refl _) (max a0 0))
        go_upto_region 4 with fail
        obtain ⟨w4, hw4⟩ : ∃ w4, w4 = w3.setCell ⟨w.heap.size + 1, 0, none⟩ (.int .i64 (max a0 0)) := ⟨_, rfl⟩
        rw [← hw4] at T3 ⊢
        have HKID := Lib.hid (fun (j : Nat) (hj : j < ks.length) => chkC_kid HWF.out HCK.out hj)
        obtain ⟨m0, hm0⟩ : ∃ m0, m0 = max a0 0 := ⟨_, rfl⟩
        rw [← hm0] at T3 HKID
        have hm1 : 0 ≤ m0 ∧ m0 ≤ 1000 := by omega
        clear hw4 hm0 x0 x1 x2 x3 x4 s0 s1 s2 s3 T2 HWF HCK hbig hbi
        obtain ⟨x0, x1, x2, x3, x4, s0, s1, s2, s3, _, _, _, _, _, _⟩ := T3.out
        have hsz1 := hsz
        rw [szT] at hsz1
        have hdl := dpL_le ks
        go_wp2_with fail
        go_loopw [5, 6, 33] (fun s5 s6 s33 wx => ∃ j : Nat, j ≤ ks.length ∧ s5 = .int .i64 (1 + (szL (ks.take j) : Int)) ∧ s6 = .int .i64 (1 + (dpL (ks.take j) : Int)) ∧ s33 = .int .i64 (j : Int) ∧ ScT w w.heap.size (.mk k i nm ls ks) (.int .i64 k) (.int .i64 i) (.string nm) (.slice AL ls.length cl) (.slice AK ks.length ck) m0 a1 a2 a3 wx) (fun _ _ s33 _ => ks.length - (intOf s33).toNat)
        case atStart => exact ⟨0, Nat.zero_le _, rfl, rfl, rfl, T3.out⟩
        case round =>
          obtain ⟨j, hj, rfl, rfl, rfl, hS⟩ := hrel
          have HS := Lib.hid hS
          clear x0 x1 x2 x3 x4 s0 s1 s2 s3 T3
          obtain ⟨x0, x1, x2, x3, x4, s0, s1, s2, s3, htm, _, _, hsw, hsw1, _⟩ := hS
          by_cases hjl : j < ks.length
          · rw [TmV] at htm
            obtain ⟨AL', cl', AK', ck', hve, _, _, hks⟩ := htm
            simp only [Value.agg.injEq, Array.mk.injEq, List.cons.injEq, Value.slice.injEq, and_true, true_and] at hve
            obtain ⟨⟨rfl, rfl⟩, rfl, rfl⟩ := hve
            obtain ⟨kb, ko, rfl, hkb, hkc⟩ := hks (by omega)
            obtain ⟨d0, d1, d2, d3, d4, y0, y1, y2, y3, y4, hq⟩ := hkc.at_ (List.getElem?_eq_getElem hjl)
            obtain ⟨qk, qi, qn, qAL, qnl, qcl, qAK, qck, hqe, _, _⟩ := hq.open_
            simp only [Value.agg.injEq, Array.mk.injEq, List.cons.injEq, and_true] at hqe
            obtain ⟨rfl, rfl, rfl, rfl, rfl⟩ := hqe
            have HBQ := Lib.hid (BxT.start hq hsw)
            have HKJ := Lib.hid (HKID.out j hjl)
            have hst := szL_take (List.getElem?_eq_getElem hjl)
            have hdt := dpL_take (List.getElem?_eq_getElem hjl)
            have hle := szL_take_le ks (j + 1)
            have hd1 := dpT_le ks[j]
            have hd2 := dpL_le (ks.take j)
            have hszq : szT ks[j] ≤ 200 := by omega
            have hdq : dpT ks[j] ≤ 200 := by omega
            have hs200 : szL (ks.take j) ≤ 200 := by omega
            have hd200 : dpL (ks.take j) ≤ 200 := by omega
            have HST := Lib.hid (And.intro hst hdt)
            have hjb : j ≤ 200 := by
              have : (ks.take j).length ≤ szL (ks.take j) := len_szL _
              rw [List.length_take] at this
              omega
            generalize ks[j] = q at *
            clear hq hkc hks hst hdt hle hd1 hd2
            have hb0 : Below wr.heap.size wr (wr.alloc (.cells #[.int .i64 qk, .int .i64 qi, .string qn, .slice qAL qnl qcl, .slice qAK q.kids.length qck] 27)) := (Below.refl _ _).alloc (Nat.le_refl _) _
            have hb1 : Below (wr.heap.size + 1) (wr.alloc (.cells #[.int .i64 qk, .int .i64 qi, .string qn, .slice qAL qnl qcl, .slice qAK q.kids.length qck] 27)) ((wr.alloc (.cells #[.int .i64 qk, .int .i64 qi, .string qn, .slice qAL qnl qcl, .slice qAK q.kids.length qck] 27)).alloc (.cells #[.int .i64 m0, .int .i64 a1, .int .i64 a2, .int .i64 a3] 29)) := (Below.refl _ _).alloc (by simp) _
            have hb2 : Below (wr.heap.size + 1) (wr.alloc (.cells #[.int .i64 qk, .int .i64 qi, .string qn, .slice qAL qnl qcl, .slice qAK q.kids.length qck] 27)) ((wr.alloc (.cells #[.int .i64 qk, .int .i64 qi, .string qn, .slice qAL qnl qcl, .slice qAK q.kids.length qck] 27)).alloc (.cells #[.int .i64 (m0 + 1), .int .i64 a1, .int .i64 a2, .int .i64 a3] 29)) := (Below.refl _ _).alloc (by simp) _
            have HN := Lib.hid (And.intro (HBQ.out.nextB hb1 (by omega) (by omega)) ((HS.out.next hb0).nextB hb1 (by omega) (by omega)))
            have HY := Lib.hid (And.intro (HBQ.out.nextB hb2 (by omega) (by omega)) ((HS.out.next hb0).nextB hb2 (by omega) (by omega)))
            have hpos := HS.out.pos
            have g0 := HN.out.2.x0
            clear hb0 hb1 hb2 HBQ HS
            by_cases hbn : (j = 1 ∧ (k = 5 ∨ k = 6 ∨ k = 7)) ∨ (j = 2 ∧ k = 11)
            case' pos =>
              have hbv : binI k (j : Int) = 1 := by unfold binI; rw [if_pos (by omega)]
              rw [hbv] at HKJ
              have HX := HY
              clear HN HY
              rcases hbn with ⟨h1, h5 | h6 | h7⟩ | ⟨h2, h11⟩
            case' neg =>
              have hbv : binI k (j : Int) = 0 := by unfold binI; rw [if_neg (by omega)]
              rw [hbv, Int.add_zero] at HKJ
              have HX := HN
              clear HN HY
              rcases (show j = 1 ∨ j = 2 ∨ (j ≠ 1 ∧ j ≠ 2) by omega) with h1 | h2 | h0
            all_goals
              first
              | (have e1 : ((j : Int) == 1) = true := by rw [beq_iff_eq]; omega
                 have e5 : (k == 5) = true := by rw [beq_iff_eq]; omega)
              | (have e1 : ((j : Int) == 1) = true := by rw [beq_iff_eq]; omega
                 have e5 : (k == 5) = false := by rw [beq_eq_false_iff_ne]; omega
                 have e6 : (k == 6) = true := by rw [beq_iff_eq]; omega)
              | (have e1 : ((j : Int) == 1) = true := by rw [beq_iff_eq]; omega
                 have e5 : (k == 5) = false := by rw [beq_eq_false_iff_ne]; omega
                 have e6 : (k == 6) = false := by rw [beq_eq_false_iff_ne]; omega
                 have e7 : (k == 7) = true := by rw [beq_iff_eq]; omega)
              | (have e1 : ((j : Int) == 1) = false := by rw [beq_eq_false_iff_ne]; omega
                 have e2 : ((j : Int) == 2) = true := by rw [beq_iff_eq]; omega
                 have e11 : (k == 11) = true := by rw [beq_iff_eq]; omega)
              | (have e1 : ((j : Int) == 1) = true := by rw [beq_iff_eq]; omega
                 have e2 : ((j : Int) == 2) = false := by rw [beq_eq_false_iff_ne]; omega
                 have e5 : (k == 5) = false := by rw [beq_eq_false_iff_ne]; omega
                 have e6 : (k == 6) = false := by rw [beq_eq_false_iff_ne]; omega
                 have e7 : (k == 7) = false := by rw [beq_eq_false_iff_ne]; omega)
              | (have e1 : ((j : Int) == 1) = false := by rw [beq_eq_false_iff_ne]; omega
                 have e2 : ((j : Int) == 2) = true := by rw [beq_iff_eq]; omega
                 have e11 : (k == 11) = false := by rw [beq_eq_false_iff_ne]; omega)
              | (have e1 : ((j : Int) == 1) = false := by rw [beq_eq_false_iff_ne]; omega
                 have e2 : ((j : Int) == 2) = false := by rw [beq_eq_false_iff_ne]; omega)
              try clear h5
              try clear h6
              try clear h7
              try clear h11
              try clear h1
              try clear h2
              try clear h0
              go_wp2_with fail
              refine (lcheck_any q _ _ a1 a2 a3 w.heap.size _ HX.out.1.tm HX.out.1.size hpos HX.out.2.sh (by omega)).mono ?_
              rintro e w5 ⟨rfl, hb5⟩
              rw [HKJ.out]
              have HQ := Lib.hid (HX.out.1.next hb5)
              have HS := Lib.hid (HX.out.2.next hb5)
              clear hb5 HX HKJ x0 x1 x2 x3 x4 s0 s1 s2 s3 y0 y1 y2 y3 y4
              obtain ⟨z0, z1, z2, z3, z4, _, _, _, _⟩ := HQ.out
              go_wp2_with fail
              refine (size_any q _ w.heap.size _ HQ.out.tm HQ.out.size hpos HS.out.sh.s4 (by omega)).mono ?_
              rintro e w6 ⟨rfl, hb5⟩
              replace HQ := Lib.hid (HQ.out.next hb5)
              replace HS := Lib.hid (HS.out.next hb5)
              clear hb5 z0 z1 z2 z3 z4
              obtain ⟨z0, z1, z2, z3, z4, _, _, _, _⟩ := HQ.out
              go_wp2_with fail
              refine (depth_any q _ w.heap.size _ HQ.out.tm HQ.out.size hpos HS.out.sh.s4 (by omega)).mono ?_
              rintro e w7 ⟨rfl, hb5⟩
              replace HS := Lib.hid (HS.out.next hb5)
              clear hb5 z0 z1 z2 z3 z4 HQ
              go_wp2_with fail
              go_roundw
              case rel => exact ⟨j + 1, hjl, by rw [HST.out.1]; congr 1; omega, by rw [HST.out.2]; congr 1; omega, by go_num, HS.out⟩
              case measure => simp [intOf]; omega
          · have he : ks.take j = ks := List.take_of_length_le (by omega)
            have hji : decide ((j : Int) < (ks.length : Int)) = false := by rw [decide_eq_false_iff_not]; omega
            rw [he]
            have q1 : ((szT (.mk k i nm ls ks) : Int) == 1 + (szL ks : Int)) = true := by rw [beq_iff_eq, szT]; omega
            have q2 : ((dpT (.mk k i nm ls ks) : Int) == 1 + (dpL ks : Int)) = true := by rw [beq_iff_eq, dpT]; omega
            have hpos := HS.out.pos
            clear htm
            go_wp2_with fail
            refine (size_any (.mk k i nm ls ks) _ w.heap.size _ HS.out.tm HS.out.size hpos HS.out.sh.s4 (by omega)).mono ?_
            rintro e w5 ⟨rfl, hb5⟩
            replace HS := Lib.hid (HS.out.next hb5)
            clear hb5 x0 x1 x2 x3 x4 s0 s1 s2 s3
            obtain ⟨x0, x1, x2, x3, x4, _, _, _, _, _, _, _, _, _, _⟩ := HS.out
            go_wp2_with fail
            refine (depth_any (.mk k i nm ls ks) _ w.heap.size _ HS.out.tm HS.out.size hpos HS.out.sh.s4 (by omega)).mono ?_
            rintro e w6 ⟨rfl, hb5⟩
            replace HS := Lib.hid (HS.out.next hb5)
            clear hb5 x0 x1 x2 x3 x4
            go_wp2_with fail
            refine (awake_any _ HS.out.sh (by have := HS.out.size; omega)).mono ?_
            rintro e w7 ⟨rfl, hb5⟩
            replace HS := Lib.hid (HS.out.next hb5)
            clear hb5
            go_wp2_with fail
            go_ret
            exact ⟨rfl, HS.out.below⟩
      · have hcn : (chkC a0 a1 a2 a3 (.mk k i nm ls ks) == 0) = false := by simpa using hck
        go_wp2_with fail
        refine (awake_any _ T2.out.sh (by have := T2.out.size; have := T2.out.pos; omega)).mono ?_
        rintro e w4 ⟨rfl, hb3⟩
        have T3 := Lib.hid (T2.out.next hb3)
        clear hb3
        go_wp2_with fail
        go_ret
        exact ⟨rfl, T3.out.below⟩
end Go.Proofs.YtbiifkpelldciaaDoor
