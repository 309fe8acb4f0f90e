/- The reference: Check; the law's check. -/
import Derived.Test.YtobaeeobfcffoaaDoorRck
import Derived.Test.YtobaeeobfcffoaaDoorCpy
/-! The reference: Check; the law's check. -/
namespace Go.Proofs.YtobaeeobfcffoaaDoor
open Go.RowKit

theorem chkC_bad {vars params metas levels : Int} {t : Tm} (h : chkL (max 0 vars) (max 0 params) (max 0 metas) (max 0 levels) (preT t 0 1) ≠ 0) : chkC vars params metas levels t = chkL (max 0 vars) (max 0 params) (max 0 metas) (max 0 levels) (preT t 0 1) := by unfold chkC; rw [if_pos h]
theorem chkC_long {vars params metas levels : Int} {t : Tm} (h : chkL (max 0 vars) (max 0 params) (max 0 metas) (max 0 levels) (preT t 0 1) = 0) (h2 : 4096 < szT t) : chkC vars params metas levels t = 5 := by unfold chkC; rw [if_neg (fun e => e h), if_pos h2]
theorem chkC_deep {vars params metas levels : Int} {t : Tm} (h : chkL (max 0 vars) (max 0 params) (max 0 metas) (max 0 levels) (preT t 0 1) = 0) (h2 : ¬ 4096 < szT t) (h3 : 200 < dpT t) : chkC vars params metas levels t = 7 := by unfold chkC; rw [if_neg (fun e => e h), if_neg h2, if_pos h3]
theorem chkC_ok {vars params metas levels : Int} {t : Tm} (h : chkL (max 0 vars) (max 0 params) (max 0 metas) (max 0 levels) (preT t 0 1) = 0) (h2 : ¬ 4096 < szT t) (h3 : ¬ 200 < dpT t) : chkC vars params metas levels t = 0 := by unfold chkC; rw [if_neg (fun e => e h), if_neg h2, if_neg h3]

set_option maxRecDepth 100000 in
set_option maxHeartbeats 4000000 in
theorem rcheckC_any (t : Tm) (v : Value) (vars params metas levels : Int) (B : Nat) (w : World) (hv : TmV w B t v) (hB : B ≤ w.heap.size) (hsz : szT t ≤ 100000000) :
    Calls Tryd.prog 26 #[v, .int .i64 vars, .int .i64 params, .int .i64 metas, .int .i64 levels] w fun e w' => e = .returned (.int .i64 (chkC vars params metas levels t)) ∧ Below w.heap.size w w' := by
  have hv0 := hv
  obtain ⟨k, i, nm, AL, nl, cl, AK, ck, rfl, _, _⟩ := hv.open_
  have B0 := Lib.hid (BxT.start hv0 hB)
  clear hv hv0
  have HK := Lib.hid (fun (vs : Int) (W : World) (h : TmV W B t (.agg #[.int .i64 k, .int .i64 i, .string nm, .slice AL nl cl, .slice AK t.kids.length ck])) (hBW : B ≤ W.heap.size) => rcheck_any vs params metas levels (szT t) t _ 0 1 B W (Nat.le_refl _) (by omega) h hBW)
  have HT := Lib.hid hsz
  go_enter Tryd.func26, Tryd.ntmps26
  obtain ⟨x0, x1, x2, x3, x4, _, _, _, _⟩ := B0.out
  go_upto_region 1 with fail
  go_cut [11] from 12 to 19 (fun s11 wx => s11 = .int .i64 (chkL (max 0 vars) (max 0 params) (max 0 metas) (max 0 levels) (preT t 0 1)) ∧ BxT w B t (.int .i64 k) (.int .i64 i) (.string nm) (.slice AL nl cl) (.slice AK t.kids.length ck) wx)
  case first =>
    go_wp2_with fail
    · refine (HK.out _ _ B0.out.tm B0.out.size).mono ?_
      rintro e w2 ⟨rfl, hb2⟩
      have B1 := Lib.hid (B0.out.next hb2)
      clear hb2
      go_wp2_with fail
      go_meet
      case rel => exact ⟨by rw [show max 0 vars = 0 by omega], B1.out⟩
    · refine (HK.out _ _ B0.out.tm B0.out.size).mono ?_
      rintro e w2 ⟨rfl, hb2⟩
      have B1 := Lib.hid (B0.out.next hb2)
      clear hb2
      go_wp2_with fail
      go_meet
      case rel => exact ⟨by rw [show max 0 vars = vars by omega], B1.out⟩
  case rest =>
    obtain ⟨rfl, hbx⟩ := hcut
    have B1 := Lib.hid hbx
    clear hbx HK
    obtain ⟨x0, x1, x2, x3, x4, _, hbl, _, _⟩ := B1.out
    obtain ⟨ev, hev⟩ : ∃ ev, chkL (max 0 vars) (max 0 params) (max 0 metas) (max 0 levels) (preT t 0 1) = ev := ⟨_, rfl⟩
    have HEV := Lib.hid hev
    rw [hev]
    clear hev
    have hdp := Lib.hid (dpT_le t)
    cases h0 : (ev == 0) with
    | false =>
      have HC : Hid (chkC vars params metas levels t = ev) := Lib.hid (by rw [chkC_bad (by rw [HEV.out]; simpa using h0), HEV.out])
      go_wp2_with fail
      go_ret
      exact ⟨ret_int HC.out.symm, hbl⟩
    | true =>
      have HZ : Hid (chkL (max 0 vars) (max 0 params) (max 0 metas) (max 0 levels) (preT t 0 1) = 0) := Lib.hid (by rw [HEV.out]; simpa using h0)
      go_wp2_with fail
      refine (rsize_any (szT t) t _ B _ (Nat.le_refl _) (by have := HT.out; omega) B1.out.tm B1.out.size).mono ?_
      rintro e w2 ⟨rfl, hb2⟩
      have B2 := Lib.hid (B1.out.next hb2)
      clear hb2 x0 x1 x2 x3 x4 hbl
      obtain ⟨x0, x1, x2, x3, x4, _, hbl, _, _⟩ := B2.out
      by_cases hsl : 4096 < szT t
      · have HC := Lib.hid (chkC_long HZ.out hsl)
        have hsi : decide ((4096 : Int) < (szT t : Int)) = true := by rw [decide_eq_true_iff]; omega
        go_wp2_with fail
        go_ret
        exact ⟨ret_int HC.out.symm, hbl⟩
      · have hsn : ¬ 4096 < szT t := hsl
        have hsi : decide ((4096 : Int) < (szT t : Int)) = false := by rw [decide_eq_false_iff_not]; omega
        go_wp2_with fail
        refine (rdepth_any (szT t) t _ B _ (Nat.le_refl _) (by have := HT.out; omega) B2.out.tm B2.out.size).mono ?_
        rintro e w3 ⟨rfl, hb3⟩
        have B3 := Lib.hid (B2.out.next hb3)
        clear hb3 x0 x1 x2 x3 x4 hbl
        obtain ⟨x0, x1, x2, x3, x4, _, hbl, _, _⟩ := B3.out
        by_cases hdl : 200 < dpT t
        · have HC := Lib.hid (chkC_deep HZ.out hsl hdl)
          have hdi : decide ((200 : Int) < (dpT t : Int)) = true := by rw [decide_eq_true_iff]; omega
          go_wp2_with fail
          go_ret
          exact ⟨ret_int HC.out.symm, hbl⟩
        · have HC := Lib.hid (chkC_ok HZ.out hsl hdl)
          have hdn : ¬ 200 < dpT t := hdl
          have hdi : decide ((200 : Int) < (dpT t : Int)) = false := by rw [decide_eq_false_iff_not]; omega
          go_wp2_with fail
          go_ret
          exact ⟨ret_int HC.out.symm, hbl⟩

/-- A scope in its box, beside a term in its box. -/
structure ScT (w : World) (B : Nat) (t : Tm) (c0 c1 c2 c3 c4 : Value) (a0 a1 a2 a3 : Int) (wx : World) : Prop where
  x0 : wx.cell? ⟨w.heap.size, 0, none⟩ = some c0
  x1 : wx.cell? ⟨w.heap.size, 1, none⟩ = some c1
  x2 : wx.cell? ⟨w.heap.size, 2, none⟩ = some c2
  x3 : wx.cell? ⟨w.heap.size, 3, none⟩ = some c3
  x4 : wx.cell? ⟨w.heap.size, 4, none⟩ = some c4
  s0 : wx.cell? ⟨w.heap.size + 1, 0, none⟩ = some (.int .i64 a0)
  s1 : wx.cell? ⟨w.heap.size + 1, 1, none⟩ = some (.int .i64 a1)
  s2 : wx.cell? ⟨w.heap.size + 1, 2, none⟩ = some (.int .i64 a2)
  s3 : wx.cell? ⟨w.heap.size + 1, 3, none⟩ = some (.int .i64 a3)
  tm : TmV wx B t (.agg #[c0, c1, c2, c3, c4])
  sh : Shapes wx
  below : Below w.heap.size w wx
  size : B ≤ wx.heap.size
  sz : w.heap.size + 1 < wx.heap.size
  pos : 0 < B
namespace ScT
variable {w wx wy : World} {B : Nat} {t : Tm} {c0 c1 c2 c3 c4 : Value} {a0 a1 a2 a3 : Int}
theorem next (h : ScT w B t c0 c1 c2 c3 c4 a0 a1 a2 a3 wx) (hb : Below wx.heap.size wx wy) : ScT w B t c0 c1 c2 c3 c4 a0 a1 a2 a3 wy := by
  have hk : ∀ (p : Addr) (v : Value), wx.cell? p = some v → wy.cell? p = some v := fun p v hv => (hb.cell (World.block_lt_of_cell? wx p hv)).trans hv
  exact ⟨hk _ _ h.x0, hk _ _ h.x1, hk _ _ h.x2, hk _ _ h.x3, hk _ _ h.x4, hk _ _ h.s0, hk _ _ h.s1, hk _ _ h.s2, hk _ _ h.s3, h.tm.below hb h.size, h.sh.below hb (by have := h.size; have := h.pos; omega), h.below.trans (hb.mono (by have := h.sz; omega)), Nat.le_trans h.size hb.size, Nat.lt_of_lt_of_le h.sz hb.size, h.pos⟩
end ScT
end Go.Proofs.YtobaeeobfcffoaaDoor

/-! The kids of an accepted term. -/
namespace Go.Proofs.YtobaeeobfcffoaaDoor
open Go.RowKit

mutual
/-- The indices are numbers of 64 bits. -/
def WfT : Tm → Prop
  | .mk _ i _ _ ks => (-9223372036854775808 ≤ i ∧ i ≤ 9223372036854775807) ∧ WfL ks
def WfL : List Tm → Prop
  | [] => True
  | t :: r => WfT t ∧ WfL r
end
theorem WfL.at_ : ∀ {ks : List Tm}, WfL ks → ∀ {j : Nat} (hj : j < ks.length), WfT ks[j]
  | [], _, _, hj => absurd hj (by simp)
  | t :: r, h, 0, _ => by rw [WfL] at h; exact h.1
  | t :: r, h, j + 1, hj => by rw [WfL] at h; exact h.2.at_ (by simpa using hj)
theorem wfL_of {f : Nat → Tm} (h : ∀ j, WfT (f j)) : ∀ (l : List Nat), WfL (l.map f)
  | [] => by rw [List.map_nil, WfL]; trivial
  | n :: r => by rw [List.map_cons, WfL]; exact ⟨h n, wfL_of h r⟩

theorem endN_shift {v m k i : Int} {b c : Nat} (hi : -9223372036854775808 ≤ i ∧ i ≤ 9223372036854775807) (hb : b + c ≤ 1000000000) : endN v m k i ((b + c : Nat) : Int) = endN (v + c) m k i b := by
  have h : (decide (i < 0) || decide (v ≤ wrap64 (i - ((b + c : Nat) : Int)))) = (decide (i < 0) || decide (v + c ≤ wrap64 (i - b))) := by
    by_cases hn : i < 0
    · simp [hn]
    · have e1 : wrap64 (i - ((b + c : Nat) : Int)) = i - b - c := by unfold wrap64; omega
      have e2 : wrap64 (i - b) = i - b := by unfold wrap64; omega
      rw [e1, e2]
      congr 1
      exact decide_eq_decide.2 (by omega)
  unfold endN
  rw [h]
theorem chkN_shift {v p m l k i : Int} {b c nk : Nat} {nm : ByteArray} {ls : List (Int × List (Int × Int))} (hi : -9223372036854775808 ≤ i ∧ i ≤ 9223372036854775807) (hb : b + c ≤ 1000000000) : chkN v p m l k i ((b + c : Nat) : Int) nm ls nk = chkN (v + c) p m l k i b nm ls nk := by
  unfold chkN
  rw [endN_shift hi hb]
mutual
theorem chkT_shift (v p m l : Int) (c : Nat) : ∀ (t : Tm) (b d d' : Nat), WfT t → b + c + szT t ≤ 1000000000 → chkL v p m l (preT t (b + c) d) = chkL (v + c) p m l (preT t b d')
  | .mk k i nm ls ks, b, d, d', hw, hs => by
    rw [WfT] at hw
    rw [szT] at hs
    rw [preT, preT, chkL, chkL]
    have e : chkT v p m l ⟨.mk k i nm ls ks, b + c, d⟩ = chkT (v + c) p m l ⟨.mk k i nm ls ks, b, d'⟩ := by
      unfold chkT
      exact chkN_shift hw.1 (by omega)
    rw [e, chkL_shift v p m l c ks k b d d' 0 hw.2 (by omega)]
theorem chkL_shift (v p m l : Int) (c : Nat) : ∀ (ks : List Tm) (k : Int) (b d d' j : Nat), WfL ks → b + c + szL ks + 1 ≤ 1000000000 → chkL v p m l (preL ks k (b + c) d j) = chkL (v + c) p m l (preL ks k b d' j)
  | [], k, b, d, d', j, _, _ => by rw [preL, preL]; rfl
  | q :: r, k, b, d, d', j, hw, hs => by
    rw [WfL] at hw
    rw [szL] at hs
    have hx : (if 0 < j ∧ j = bindK k then 1 else 0 : Nat) ≤ 1 := by split <;> omega
    rw [preL, preL, chkL_append, chkL_append, show b + c + (if 0 < j ∧ j = bindK k then 1 else 0) = b + (if 0 < j ∧ j = bindK k then 1 else 0) + c by omega, chkT_shift v p m l c q _ (d + 1) (d' + 1) hw.1 (by omega), chkL_shift v p m l c r k b d d' (j + 1) hw.2 (by omega)]
end
theorem chkC_parts {v p m l : Int} {t : Tm} (h : chkC v p m l t = 0) : chkL (max 0 v) (max 0 p) (max 0 m) (max 0 l) (preT t 0 1) = 0 ∧ szT t ≤ 4096 ∧ dpT t ≤ 200 := by
  unfold chkC at h
  split at h
  · rename_i hn; exact absurd h hn
  · rename_i hn
    split at h
    · cases h
    · split at h
      · cases h
      · exact ⟨Decidable.not_not.1 hn, by omega, by omega⟩
theorem chkC_of {v p m l : Int} {t : Tm} (h : chkL (max 0 v) (max 0 p) (max 0 m) (max 0 l) (preT t 0 1) = 0) (h1 : szT t ≤ 4096) (h2 : dpT t ≤ 200) : chkC v p m l t = 0 := by
  unfold chkC
  rw [if_neg (fun e => e h), if_neg (by omega), if_neg (by omega)]
theorem chkL_app0 {v p m l : Int} {a b : List Nd} (h : chkL v p m l (a ++ b) = 0) : chkL v p m l a = 0 ∧ chkL v p m l b = 0 := by
  rw [chkL_append] at h
  split at h
  · rename_i e; exact ⟨e, h⟩
  · rename_i e; exact absurd h e
theorem chkC_kid {v p m l k i : Int} {nm : ByteArray} {ls : List (Int × List (Int × Int))} {ks : List Tm} (hw : WfT (.mk k i nm ls ks)) (h : chkC v p m l (.mk k i nm ls ks) = 0) {j : Nat} (hj : j < ks.length) : chkC (max v 0 + binI k j) p m l ks[j] = 0 := by
  obtain ⟨h1, h2, h3⟩ := chkC_parts h
  rw [szT] at h2
  rw [dpT] at h3
  rw [WfT] at hw
  rw [preT, chkL] at h1
  have h0 : chkL (max 0 v) (max 0 p) (max 0 m) (max 0 l) (preL ks k 0 1 0) = 0 := by
    split at h1
    · exact h1
    · rename_i e; exact absurd h1 e
  have hd : ∀ n, n ≤ ks.length → chkL (max 0 v) (max 0 p) (max 0 m) (max 0 l) (preL (ks.drop n) k 0 1 n) = 0 := by
    intro n
    induction n with
    | zero => intro _; exact h0
    | succ n ih =>
      intro hn
      have := ih (by omega)
      rw [preL_drop (by omega : n < ks.length)] at this
      exact (chkL_app0 this).2
  have hk := hd j (by omega)
  rw [preL_drop hj] at hk
  have hk' := (chkL_app0 hk).1
  have hs := szL_mem (List.getElem_mem hj)
  have hdp : dpT ks[j] ≤ dpL ks := by
    have e := dpL_take (List.getElem?_eq_getElem hj)
    have e2 : dpL (ks.take (j + 1) ++ ks.drop (j + 1)) = dpL ks := by rw [List.take_append_drop]
    rw [dpL_append] at e2
    omega
  have hx : (if 0 < j ∧ j = bindK k then 1 else 0 : Nat) ≤ 1 := by split <;> omega
  rw [chkT_shift _ _ _ _ _ ks[j] 0 (1 + 1) 1 (hw.2.at_ hj) (by omega), ← binI_bind] at hk'
  have hb : 0 ≤ binI k j := by unfold binI; split <;> omega
  have e : max 0 (max v 0 + binI k j) = max 0 v + binI k j := by omega
  exact chkC_of (by rw [e]; exact hk') (by omega) (by omega)
end Go.Proofs.YtobaeeobfcffoaaDoor
