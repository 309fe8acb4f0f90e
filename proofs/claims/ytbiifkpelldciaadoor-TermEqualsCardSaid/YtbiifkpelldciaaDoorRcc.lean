/- The reference: Check; the law's check. -/
import Derived.Test.YtbiifkpelldciaaDoorRck
import Derived.Test.YtbiifkpelldciaaDoorRdp
namespace Go.Proofs.YtbiifkpelldciaaDoor
open Go.RowKit

theorem chkC_bad {vars params metas levels : Int} {t : Tm} (h : chkL (max 0 vars) (max 0 params) (max 0 metas) (max 0 levels) (preT t 0 1) ≠ 0) : chkC vars params metas levels t = chkL (max 0 vars) (max 0 params) (max 0 metas) (max 0 levels) (preT t 0 1) := by unfold chkC; rw [if_pos h]
theorem chkC_long {vars params metas levels : Int} {t : Tm} (h : chkL (max 0 vars) (max 0 params) (max 0 metas) (max 0 levels) (preT t 0 1) = 0) (h2 : 4096 < szT t) : chkC vars params metas levels t = 5 := by unfold chkC; rw [if_neg (fun e => e h), if_pos h2]
theorem chkC_deep {vars params metas levels : Int} {t : Tm} (h : chkL (max 0 vars) (max 0 params) (max 0 metas) (max 0 levels) (preT t 0 1) = 0) (h2 : ¬ 4096 < szT t) (h3 : 200 < dpT t) : chkC vars params metas levels t = 7 := by unfold chkC; rw [if_neg (fun e => e h), if_neg h2, if_pos h3]
theorem chkC_ok {vars params metas levels : Int} {t : Tm} (h : chkL (max 0 vars) (max 0 params) (max 0 metas) (max 0 levels) (preT t 0 1) = 0) (h2 : ¬ 4096 < szT t) (h3 : ¬ 200 < dpT t) : chkC vars params metas levels t = 0 := by unfold chkC; rw [if_neg (fun e => e h), if_neg h2, if_neg h3]

set_option maxRecDepth 100000 in
set_option maxHeartbeats 4000000 in
theorem rcheckC_any (t : Tm) (v : Value) (vars params metas levels : Int) (B : Nat) (w : World) (hv : TmV w B t v) (hB : B ≤ w.heap.size) (hsz : szT t ≤ 100000000) :
    Calls Tryd.prog 16 #[v, .int .i64 vars, .int .i64 params, .int .i64 metas, .int .i64 levels] w fun e w' => e = .returned (.int .i64 (chkC vars params metas levels t)) ∧ Below w.heap.size w w' := by
  have hv0 := hv
  obtain ⟨k, i, nm, AL, nl, cl, AK, ck, rfl, _, _⟩ := hv.open_
  have B0 := Lib.hid (BxT.start hv0 hB)
  clear hv hv0
  have HK := Lib.hid (fun (vs : Int) (W : World) (h : TmV W B t (.agg #[.int .i64 k, .int .i64 i, .string nm, .slice AL nl cl, .slice AK t.kids.length ck])) (hBW : B ≤ W.heap.size) => rcheck_any vs params metas levels (szT t) t _ 0 1 B W (Nat.le_refl _) (by omega) h hBW)
  have HT := Lib.hid hsz
  go_enter Tryd.func16, Tryd.ntmps16
  obtain ⟨x0, x1, x2, x3, x4, _, _, _, _⟩ := B0.out
  go_upto_region 1 with fail
  go_cut [11] from 12 to 19 (fun s11 wx => s11 = .int .i64 (chkL (max 0 vars) (max 0 params) (max 0 metas) (max 0 levels) (preT t 0 1)) ∧ BxT w B t (.int .i64 k) (.int .i64 i) (.string nm) (.slice AL nl cl) (.slice AK t.kids.length ck) wx)
  case first =>
    go_wp2_with fail
    · refine (HK.out _ _ B0.out.tm B0.out.size).mono ?_
      rintro e w2 ⟨rfl, hb2⟩
      have B1 := Lib.hid (B0.out.next hb2)
      clear hb2
      go_wp2_with fail
      go_meet
      case rel => exact ⟨by rw [show max 0 vars = 0 by omega], B1.out⟩
    · refine (HK.out _ _ B0.out.tm B0.out.size).mono ?_
      rintro e w2 ⟨rfl, hb2⟩
      have B1 := Lib.hid (B0.out.next hb2)
      clear hb2
      go_wp2_with fail
      go_meet
      case rel => exact ⟨by rw [show max 0 vars = vars by omega], B1.out⟩
  case rest =>
    obtain ⟨rfl, hbx⟩ := hcut
    have B1 := Lib.hid hbx
    clear hbx HK
    obtain ⟨x0, x1, x2, x3, x4, _, hbl, _, _⟩ := B1.out
    obtain ⟨ev, hev⟩ : ∃ ev, chkL (max 0 vars) (max 0 params) (max 0 metas) (max 0 levels) (preT t 0 1) = ev := ⟨_, rfl⟩
    have HEV := Lib.hid hev
    rw [hev]
    clear hev
    have hdp := Lib.hid (dpT_le t)
    cases h0 : (ev == 0) with
    | false =>
      have HC : Hid (chkC vars params metas levels t = ev) := Lib.hid (by rw [chkC_bad (by rw [HEV.out]; simpa using h0), HEV.out])
      go_wp2_with fail
      go_ret
      exact ⟨ret_int HC.out.symm, hbl⟩
    | true =>
      have HZ : Hid (chkL (max 0 vars) (max 0 params) (max 0 metas) (max 0 levels) (preT t 0 1) = 0) := Lib.hid (by rw [HEV.out]; simpa using h0)
      go_wp2_with fail
      refine (rsize_any (szT t) t _ B _ (Nat.le_refl _) (by have := HT.out; omega) B1.out.tm B1.out.size).mono ?_
      rintro e w2 ⟨rfl, hb2⟩
      have B2 := Lib.hid (B1.out.next hb2)
      clear hb2 x0 x1 x2 x3 x4 hbl
      obtain ⟨x0, x1, x2, x3, x4, _, hbl, _, _⟩ := B2.out
      by_cases hsl : 4096 < szT t
      · have HC := Lib.hid (chkC_long HZ.out hsl)
        have hsi : decide ((4096 : Int) < (szT t : Int)) = true := by rw [decide_eq_true_iff]; omega
        go_wp2_with fail
        go_ret
        exact ⟨ret_int HC.out.symm, hbl⟩
      · have hsn : ¬ 4096 < szT t := hsl
        have hsi : decide ((4096 : Int) < (szT t : Int)) = false := by rw [decide_eq_false_iff_not]; omega
        go_wp2_with fail
        refine (rdepth_any (szT t) t _ B _ (Nat.le_refl _) (by have := HT.out; omega) B2.out.tm B2.out.size).mono ?_
        rintro e w3 ⟨rfl, hb3⟩
        have B3 := Lib.hid (B2.out.next hb3)
        clear hb3 x0 x1 x2 x3 x4 hbl
        obtain ⟨x0, x1, x2, x3, x4, _, hbl, _, _⟩ := B3.out
        by_cases hdl : 200 < dpT t
        · have HC := Lib.hid (chkC_deep HZ.out hsl hdl)
          have hdi : decide ((200 : Int) < (dpT t : Int)) = true := by rw [decide_eq_true_iff]; omega
          go_wp2_with fail
          go_ret
          exact ⟨ret_int HC.out.symm, hbl⟩
        · have HC := Lib.hid (chkC_ok HZ.out hsl hdl)
          have hdn : ¬ 200 < dpT t := hdl
          have hdi : decide ((200 : Int) < (dpT t : Int)) = false := by rw [decide_eq_false_iff_not]; omega
          go_wp2_with fail
          go_ret
          exact ⟨ret_int HC.out.symm, hbl⟩

/-- A scope in its box, beside a term in its box. -/
structure ScT (w : World) (B : Nat) (t : Tm) (c0 c1 c2 c3 c4 : Value) (a0 a1 a2 a3 : Int) (wx : World) : Prop where
  x0 : wx.cell? ⟨w.heap.size, 0, none⟩ = some c0
  x1 : wx.cell? ⟨w.heap.size, 1, none⟩ = some c1
  x2 : wx.cell? ⟨w.heap.size, 2, none⟩ = some c2
  x3 : wx.cell? ⟨w.heap.size, 3, none⟩ = some c3
  x4 : wx.cell? ⟨w.heap.size, 4, none⟩ = some c4
  s0 : wx.cell? ⟨w.heap.size + 1, 0, none⟩ = some (.int .i64 a0)
  s1 : wx.cell? ⟨w.heap.size + 1, 1, none⟩ = some (.int .i64 a1)
  s2 : wx.cell? ⟨w.heap.size + 1, 2, none⟩ = some (.int .i64 a2)
  s3 : wx.cell? ⟨w.heap.size + 1, 3, none⟩ = some (.int .i64 a3)
  tm : TmV wx B t (.agg #[c0, c1, c2, c3, c4])
  sh : Shapes wx
  below : Below w.heap.size w wx
  size : B ≤ wx.heap.size
  sz : w.heap.size + 1 < wx.heap.size
  pos : 0 < B
namespace ScT
variable {w wx wy : World} {B : Nat} {t : Tm} {c0 c1 c2 c3 c4 : Value} {a0 a1 a2 a3 : Int}
theorem next (h : ScT w B t c0 c1 c2 c3 c4 a0 a1 a2 a3 wx) (hb : Below wx.heap.size wx wy) : ScT w B t c0 c1 c2 c3 c4 a0 a1 a2 a3 wy := by
  have hk : ∀ (p : Addr) (v : Value), wx.cell? p = some v → wy.cell? p = some v := fun p v hv => (hb.cell (World.block_lt_of_cell? wx p hv)).trans hv
  exact ⟨hk _ _ h.x0, hk _ _ h.x1, hk _ _ h.x2, hk _ _ h.x3, hk _ _ h.x4, hk _ _ h.s0, hk _ _ h.s1, hk _ _ h.s2, hk _ _ h.s3, h.tm.below hb h.size, h.sh.below hb (by have := h.size; have := h.pos; omega), h.below.trans (hb.mono (by have := h.sz; omega)), Nat.le_trans h.size hb.size, Nat.lt_of_lt_of_le h.sz hb.size, h.pos⟩
theorem start (hv : TmV w B t (.agg #[c0, c1, c2, c3, c4])) (hsh : Shapes w) (hB : B ≤ w.heap.size) (hw : 0 < B) : ScT w B t c0 c1 c2 c3 c4 a0 a1 a2 a3 ((w.alloc (.cells #[c0, c1, c2, c3, c4] 27)).alloc (.cells #[.int .i64 a0, .int .i64 a1, .int .i64 a2, .int .i64 a3] 29)) := by
  have hn := World.alloc_heap_new w (.cells #[c0, c1, c2, c3, c4] 27)
  have hm := World.alloc_heap_new (w.alloc (.cells #[c0, c1, c2, c3, c4] 27)) (.cells #[.int .i64 a0, .int .i64 a1, .int .i64 a2, .int .i64 a3] 29)
  rw [World.size_alloc] at hm
  have hq := (Below.heap_alloc (w.alloc (.cells #[c0, c1, c2, c3, c4] 27)) (.cells #[.int .i64 a0, .int .i64 a1, .int .i64 a2, .int .i64 a3] 29) w.heap.size (by simp)).trans hn
  have hb : Below w.heap.size w ((w.alloc (.cells #[c0, c1, c2, c3, c4] 27)).alloc (.cells #[.int .i64 a0, .int .i64 a1, .int .i64 a2, .int .i64 a3] 29)) := ((Below.refl _ _).alloc (Nat.le_refl _) _).alloc (by simp) _
  exact ⟨cell_of_row _ _ 0 _ _ _ hq, cell_of_row _ _ 1 _ _ _ hq, cell_of_row _ _ 2 _ _ _ hq, cell_of_row _ _ 3 _ _ _ hq, cell_of_row _ _ 4 _ _ _ hq, cell_of_row _ _ 0 _ _ _ hm, cell_of_row _ _ 1 _ _ _ hm, cell_of_row _ _ 2 _ _ _ hm, cell_of_row _ _ 3 _ _ _ hm, hv.below hb hB, hsh.below hb (by omega), hb, by simp; omega, by simp, hw⟩
end ScT

set_option maxRecDepth 100000 in
set_option maxHeartbeats 4000000 in
theorem lcheck_any (t : Tm) (v : Value) (vars params metas levels : Int) (B : Nat) (w : World) (hv : TmV w B t v) (hB : B ≤ w.heap.size) (hB0 : 0 < B) (hsh : Shapes w) (hsz : szT t ≤ 100000000) :
    Calls Tryd.prog 15 #[v, .agg #[.int .i64 vars, .int .i64 params, .int .i64 metas, .int .i64 levels]] w fun e w' => e = .returned (.int .i64 (chkC vars params metas levels t)) ∧ Below w.heap.size w w' := by
  have hv0 := hv
  obtain ⟨k, i, nm, AL, nl, cl, AK, ck, rfl, _, _⟩ := hv.open_
  have B0 := Lib.hid (ScT.start (a0 := vars) (a1 := params) (a2 := metas) (a3 := levels) hv0 hsh hB hB0)
  clear hv hv0
  go_enter Tryd.func15, Tryd.ntmps15
  go_wp2_with fail
  refine (check_any t _ vars params metas levels B _ B0.out.tm B0.out.size B0.out.pos B0.out.sh (by omega)).mono ?_
  rintro e w2 ⟨rfl, hb2⟩
  have B1 := Lib.hid (B0.out.next hb2)
  clear hb2
  go_wp2_with fail
  go_ret
  exact ⟨rfl, B1.out.below⟩
end Go.Proofs.YtbiifkpelldciaaDoor
