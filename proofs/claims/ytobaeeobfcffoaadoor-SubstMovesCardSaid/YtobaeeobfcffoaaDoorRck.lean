/- The reference: check, the first error of the nodes of a term. -/
import Derived.Test.YtobaeeobfcffoaaDoorChp
import Derived.Test.YtobaeeobfcffoaaDoorRfm
import Derived.Test.YtobaeeobfcffoaaDoorRle
import Derived.Test.YtobaeeobfcffoaaDoorNmr
import Derived.Deep.RegionHeld3
namespace Go.Proofs.YtobaeeobfcffoaaDoor
open Go.RowKit

theorem chkL_append {vars params metas levels : Int} (b : List Nd) : ∀ (a : List Nd), chkL vars params metas levels (a ++ b) = if chkL vars params metas levels a = 0 then chkL vars params metas levels b else chkL vars params metas levels a
  | [] => by rw [List.nil_append, chkL, if_pos rfl]
  | n :: r => by
    rw [List.cons_append, chkL, chkL, chkL_append b r]
    by_cases h : chkT vars params metas levels n = 0
    · rw [if_pos h, if_pos h]
    · rw [if_neg h, if_neg h, if_neg h]
theorem form_len {k i : Int} {nm : ByteArray} {nl nk : Nat} (h : formB k i nm nl nk = true) (h3 : k ≠ 3) : nl ≤ 1 := by
  unfold formB at h
  simp only [Bool.and_eq_true] at h
  have h2 := h.2.2.2.1
  unfold shL at h2
  by_cases hk2 : k = 2
  · rw [if_pos hk2] at h2
    simp at h2
    omega
  · rw [if_neg hk2, if_neg h3] at h2
    simp at h2
    omega
theorem binI_bind (k : Int) (j : Nat) : binI k (j : Int) = ((if 0 < j ∧ j = bindK k then 1 else 0 : Nat) : Int) := by
  unfold binI bindK
  by_cases h5 : k = 5 ∨ k = 6 ∨ k = 7
  · rw [if_pos h5]
    by_cases hj : j = 1
    · subst hj
      rw [if_pos (.inl ⟨rfl, h5⟩), if_pos ⟨by omega, rfl⟩]
      rfl
    · rw [if_neg (by omega), if_neg (by omega)]
      rfl
  · rw [if_neg h5]
    by_cases h11 : k = 11
    · rw [if_pos h11]
      by_cases hj : j = 2
      · subst hj
        rw [if_pos (.inr ⟨rfl, h11⟩), if_pos ⟨by omega, rfl⟩]
        rfl
      · rw [if_neg (by omega), if_neg (by omega)]
        rfl
    · rw [if_neg h11, if_neg (by omega), if_neg (by omega)]
      rfl
theorem preL_drop {ks : List Tm} {k : Int} {b d j : Nat} (hj : j < ks.length) : preL (ks.drop j) k b d j = preT ks[j] (b + (if 0 < j ∧ j = bindK k then 1 else 0)) (d + 1) ++ preL (ks.drop (j + 1)) k b d (j + 1) := by
  rw [← List.getElem_cons_drop hj, preL]

/-- A term in its box. -/
structure BxT (w : World) (B : Nat) (t : Tm) (c0 c1 c2 c3 c4 : Value) (wx : World) : Prop where
  x0 : wx.cell? ⟨w.heap.size, 0, none⟩ = some c0
  x1 : wx.cell? ⟨w.heap.size, 1, none⟩ = some c1
  x2 : wx.cell? ⟨w.heap.size, 2, none⟩ = some c2
  x3 : wx.cell? ⟨w.heap.size, 3, none⟩ = some c3
  x4 : wx.cell? ⟨w.heap.size, 4, none⟩ = some c4
  tm : TmV wx B t (.agg #[c0, c1, c2, c3, c4])
  below : Below w.heap.size w wx
  size : B ≤ wx.heap.size
  sz : w.heap.size < wx.heap.size
namespace BxT
variable {w wx wy : World} {B : Nat} {t : Tm} {c0 c1 c2 c3 c4 : Value}
theorem next (h : BxT w B t c0 c1 c2 c3 c4 wx) (hb : Below wx.heap.size wx wy) : BxT w B t c0 c1 c2 c3 c4 wy := by
  have hk : ∀ (p : Addr) (v : Value), wx.cell? p = some v → wy.cell? p = some v := fun p v hv => (hb.cell (World.block_lt_of_cell? wx p hv)).trans hv
  exact ⟨hk _ _ h.x0, hk _ _ h.x1, hk _ _ h.x2, hk _ _ h.x3, hk _ _ h.x4, h.tm.below hb h.size, h.below.trans (hb.mono (Nat.le_of_lt h.sz)), Nat.le_trans h.size hb.size, Nat.lt_of_lt_of_le h.sz hb.size⟩
theorem start (hv : TmV w B t (.agg #[c0, c1, c2, c3, c4])) (hB : B ≤ w.heap.size) : BxT w B t c0 c1 c2 c3 c4 (w.alloc (.cells #[c0, c1, c2, c3, c4] 25)) := by
  have hn := World.alloc_heap_new w (.cells #[c0, c1, c2, c3, c4] 25)
  have hb : Below w.heap.size w (w.alloc (.cells #[c0, c1, c2, c3, c4] 25)) := (Below.refl _ _).alloc (Nat.le_refl _) _
  exact ⟨cell_of_row _ _ 0 _ _ _ hn, cell_of_row _ _ 1 _ _ _ hn, cell_of_row _ _ 2 _ _ _ hn, cell_of_row _ _ 3 _ _ _ hn, cell_of_row _ _ 4 _ _ _ hn, hv.below hb hB, hb, by simp; omega, by simp⟩
end BxT

set_option maxRecDepth 100000 in
set_option maxHeartbeats 8000000 in
theorem rcheck_any (vars params metas levels : Int) : ∀ (n : Nat) (t : Tm) (v : Value) (b d B : Nat) (w : World), szT t ≤ n → b + n ≤ 1000000000 → TmV w B t v → B ≤ w.heap.size →
    Calls Tryd.prog 53 #[v, .int .i64 b, .int .i64 vars, .int .i64 params, .int .i64 metas, .int .i64 levels] w fun e w' => e = .returned (.int .i64 (chkL vars (max 0 params) (max 0 metas) (max 0 levels) (preT t b d))) ∧ Below w.heap.size w w' := by
  intro n
  induction n with
  | zero => intro t v b d B w h; have := szT_pos t; omega
  | succ n ih =>
    intro t v b d B w hsz hn hv hB
    have hv' := hv
    cases t with
    | mk k i nm ls ks =>
    rw [TmV] at hv
    obtain ⟨AL, cl, AK, ck, rfl, hls, hz, hks⟩ := hv
    have B0 := Lib.hid (BxT.start hv' hB)
    have HLS := Lib.hid hls
    have HKS := Lib.hid (show ∀ wx, BxT w B (.mk k i nm ls ks) (.int .i64 k) (.int .i64 i) (.string nm) (.slice AL ls.length cl) (.slice AK ks.length ck) wx → LvsA wx B AL ls from fun wx h => hls.below h.below hB)
    have hll : ls.length ≤ 4398046511104 := by have := hls.1; omega
    have hkl : ks.length ≤ 1759218604441 := by omega
    have IH := Lib.hid ih
    have HSZ := Lib.hid (show szL ks ≤ n by rw [szT] at hsz; omega)
    have HP := Lib.hid (show chkL vars (max 0 params) (max 0 metas) (max 0 levels) (preT (.mk k i nm ls ks) b d) = if chkN vars (max 0 params) (max 0 metas) (max 0 levels) k i b nm ls ks.length = 0 then chkL vars (max 0 params) (max 0 metas) (max 0 levels) (preL ks k b d 0) else chkN vars (max 0 params) (max 0 metas) (max 0 levels) k i b nm ls ks.length by rw [preT, chkL]; rfl)
    clear ih hv' hls hks hsz
    go_enter Tryd.func53, Tryd.ntmps53
    obtain ⟨x0, x1, x2, x3, x4, _, _, _, _⟩ := B0.out
    go_wp2_with fail
    refine (rform_any k i nm AL ls.length cl AK ks.length ck _).mono ?_
    rintro e w1 ⟨rfl, hb1⟩
    have B1 := Lib.hid (B0.out.next hb1)
    clear hb1 x0 x1 x2 x3 x4 B0
    obtain ⟨x0, x1, x2, x3, x4, _, hbl, _, _⟩ := B1.out
    cases hf : formB k i nm ls.length ks.length with
    | false =>
      have HC : Hid (chkL vars (max 0 params) (max 0 metas) (max 0 levels) (preT (.mk k i nm ls ks) b d) = 3) := Lib.hid (by
        have h : chkN vars (max 0 params) (max 0 metas) (max 0 levels) k i b nm ls ks.length = 3 := by unfold chkN; rw [if_pos hf]
        rw [HP.out, h, if_neg (by decide)])
      clear hf
      go_wp2_with fail
      go_ret
      exact ⟨ret_int HC.out.symm, hbl⟩
    | true =>
    have HF := Lib.hid hf
    clear hf
    have hna := Lib.hid (rname_any nm w1)
    go_upto_region 3 with fail
    go_cut [28] from 20 to 28 (fun s28 wx => s28 = .bool (k == 3 && !nameB nm) ∧ wx = w1)
    case first =>
      cases hk3 : k == 3 with
      | true =>
        go_wp2_with fail
        refine hna.out.mono ?_
        rintro e w2 ⟨rfl, hw2⟩
        have hw2' := hw2.symm
        subst hw2'
        clear hw2
        go_wp2_with fail
        go_meet
        case rel => exact ⟨by rw [hk3, Bool.true_and], rfl⟩
      | false =>
        go_wp2_with fail
        go_meet
        case rel => exact ⟨by rw [hk3]; rfl, rfl⟩
    case rest =>
    obtain ⟨rfl, rfl⟩ := hcut
    clear hna
    cases hk3 : (k == 3 && !nameB nm) with
    | true =>
      have HC : Hid (chkL vars (max 0 params) (max 0 metas) (max 0 levels) (preT (.mk k i nm ls ks) b d) = 29) := Lib.hid (by
        have h : chkN vars (max 0 params) (max 0 metas) (max 0 levels) k i b nm ls ks.length = 29 := by unfold chkN; rw [if_neg (by rw [HF.out]; decide), if_pos hk3]
        rw [HP.out, h, if_neg (by decide)])
      clear hk3
      go_wp2_with fail
      go_ret
      exact ⟨ret_int HC.out.symm, hbl⟩
    | false =>
    have HK3 := Lib.hid hk3
    clear hk3
    by_cases h8 : 8 < ls.length
    · have HC : Hid (chkL vars (max 0 params) (max 0 metas) (max 0 levels) (preT (.mk k i nm ls ks) b d) = 6) := Lib.hid (by
        have hk : k = 3 := by
          rcases Int.decEq k 3 with h | h
          · have := form_len HF.out h; omega
          · exact h
        have h : chkN vars (max 0 params) (max 0 metas) (max 0 levels) k i b nm ls ks.length = 6 := by
          unfold chkN
          rw [if_neg (by rw [HF.out]; decide), if_neg (by rw [HK3.out]; decide), if_pos (by rw [hk, decide_eq_true h8]; rfl)]
        rw [HP.out, h, if_neg (by decide)])
      have h8n := h8
      have h8i : decide ((8 : Int) < (ls.length : Int)) = true := by rw [decide_eq_true_iff]; omega
      clear h8
      go_wp2_with fail
      go_ret
      exact ⟨ret_int HC.out.symm, hbl⟩
    have h8n : ¬ 8 < ls.length := h8
    have h8i : decide ((8 : Int) < (ls.length : Int)) = false := by rw [decide_eq_false_iff_not]; omega
    have HN : Hid (chkN vars (max 0 params) (max 0 metas) (max 0 levels) k i b nm ls ks.length = if lvsE (max 0 params) (max 0 levels) ls ≠ 0 then lvsE (max 0 params) (max 0 levels) ls else endN vars (max 0 metas) k i b) := Lib.hid (by
      unfold chkN
      rw [if_neg (by rw [HF.out]; decide), if_neg (by rw [HK3.out]; decide), if_neg (by rw [decide_eq_false h8, Bool.and_false]; decide)])
    clear h8
    go_wp2_with fail
    go_loopw [13] (fun v wx => ∃ j : Nat, j ≤ ls.length ∧ v = .int .i64 (j : Int) ∧ Hid (lvsE (max 0 params) (max 0 levels) ls = lvsE (max 0 params) (max 0 levels) (ls.drop j)) ∧ BxT w B (.mk k i nm ls ks) (.int .i64 k) (.int .i64 i) (.string nm) (.slice AL ls.length cl) (.slice AK ks.length ck) wx) (fun v _ => ls.length - (intOf v).toNat)
    case atStart => exact ⟨0, Nat.zero_le _, rfl, Lib.hid rfl, B1.out⟩
    case round =>
      obtain ⟨j, hj, rfl, HJ, hS⟩ := hrel
      have HS := Lib.hid hS
      clear x0 x1 x2 x3 x4 hbl
      obtain ⟨x0, x1, x2, x3, x4, _, hbl, hsz, _⟩ := hS
      by_cases hjl : j < ls.length
      · obtain ⟨lb, lo, A', cap', rfl, hlb, hc0, hc1, hva⟩ := (HKS.out _ HS.out).at_ hjl
        have HD := Lib.hid (lvsE_drop (params := max 0 params) (levels := max 0 levels) hjl)
        generalize hgl : ls[j] = lj at *
        obtain ⟨lc, lvs⟩ := lj
        clear hgl
        have HCL := Lib.hid (rlevel_any params levels lc A' cap' lvs B wr hva hsz)
        clear hva
        go_wp2_with fail
        refine HCL.out.mono ?_
        rintro e w2 ⟨rfl, hb2⟩
        have HS2 := Lib.hid (HS.out.next hb2)
        clear hb2 HCL HS x0 x1 x2 x3 x4 hc0 hc1
        obtain ⟨ev, hev⟩ : ∃ ev, lvE (max 0 params) (max 0 levels) lc lvs = ev := ⟨_, rfl⟩
        have HEV := Lib.hid hev
        rw [hev]
        clear hev
        cases h0 : (ev == 0) with
        | true =>
          have hz : lvsE (max 0 params) (max 0 levels) ls = lvsE (max 0 params) (max 0 levels) (ls.drop (j + 1)) := by
            rw [HJ.out, HD.out, HEV.out, if_pos (by simpa using h0)]
          have HZ := Lib.hid hz
          clear hz
          go_wp2_with fail
          go_roundw
          case rel => exact ⟨j + 1, hjl, by go_num, HZ, HS2.out⟩
          case measure => simp [intOf]; omega
        | false =>
          have hne : ev ≠ 0 := by simpa using h0
          have hz : lvsE (max 0 params) (max 0 levels) ls = ev := by rw [HJ.out, HD.out, HEV.out, if_neg hne]
          have HC : Hid (chkL vars (max 0 params) (max 0 metas) (max 0 levels) (preT (.mk k i nm ls ks) b d) = ev) := Lib.hid (by rw [HP.out, HN.out, hz, if_pos hne, if_neg hne])
          clear hz hne
          go_wp2_with fail
          go_ret
          exact ⟨ret_int HC.out.symm, HS2.out.below⟩
      · have hz : lvsE (max 0 params) (max 0 levels) ls = 0 := by rw [HJ.out, List.drop_of_length_le (by omega)]; rfl
        have HE : Hid (chkL vars (max 0 params) (max 0 metas) (max 0 levels) (preT (.mk k i nm ls ks) b d) = if endN vars (max 0 metas) k i b = 0 then chkL vars (max 0 params) (max 0 metas) (max 0 levels) (preL ks k b d 0) else endN vars (max 0 metas) k i b) := Lib.hid (by
          have hN : chkN vars (max 0 params) (max 0 metas) (max 0 levels) k i b nm ls ks.length = endN vars (max 0 metas) k i b := by rw [HN.out, hz, if_neg (fun h => h rfl)]
          rw [HP.out, hN])
        have hjn : ¬ j < ls.length := hjl
        have hji : decide ((j : Int) < (ls.length : Int)) = false := by rw [decide_eq_false_iff_not]; omega
        clear hz hjl HJ HN HP
        go_upto_region 13 with fail
        go_cut [66] from 51 to 66 (fun s66 wx => s66 = .bool (k == 0 && (decide (i < 0) || decide (vars ≤ wrap64 (i - b)))) ∧ wx = wr)
        case first =>
          cases e1 : (k == 0) <;> cases e2 : decide (i < 0) <;> cases e3 : decide (vars ≤ wrap64 (i - b))
          all_goals
            go_wp2_with fail
            go_meet
            case rel => exact ⟨by rw [e1, e2, e3]; rfl, rfl⟩
        case rest =>
        obtain ⟨rfl, rfl⟩ := hcut
        cases h24 : (k == 0 && (decide (i < 0) || decide (vars ≤ wrap64 (i - b)))) with
        | true =>
          have HC : Hid (chkL vars (max 0 params) (max 0 metas) (max 0 levels) (preT (.mk k i nm ls ks) b d) = 24) := Lib.hid (by
            have h : endN vars (max 0 metas) k i b = 24 := by unfold endN; rw [if_pos h24]
            rw [HE.out, h, if_neg (by decide)])
          clear h24
          go_wp2_with fail
          go_ret
          exact ⟨ret_int HC.out.symm, hbl⟩
        | false =>
        have H24 := Lib.hid h24
        clear h24
        go_upto_region 15 with fail
        go_cut [80] from 67 to 80 (fun s80 wx => s80 = .bool (k == 12 && (decide (i < 0) || decide (metas ≤ i))) ∧ wx = wc)
        case first =>
          cases e1 : (k == 12) <;> cases e2 : decide (i < 0) <;> cases e3 : decide (metas ≤ i)
          all_goals
            go_wp2_with fail
            go_meet
            case rel => exact ⟨by rw [e1, e2, e3]; rfl, rfl⟩
        case rest =>
        obtain ⟨rfl, rfl⟩ := hcut
        have hmx : (k == 12 && (decide (i < 0) || decide (metas ≤ i))) = (k == 12 && (decide (i < 0) || decide (max 0 metas ≤ i))) := by
          by_cases h : i < 0
          · rw [decide_eq_true h, Bool.true_or, Bool.true_or]
          · rw [decide_eq_false h, Bool.false_or, Bool.false_or]
            congr 1
            rw [decide_eq_decide]
            omega
        rw [hmx]
        clear hmx
        cases h23 : (k == 12 && (decide (i < 0) || decide (max 0 metas ≤ i))) with
        | true =>
          have HC : Hid (chkL vars (max 0 params) (max 0 metas) (max 0 levels) (preT (.mk k i nm ls ks) b d) = 23) := Lib.hid (by
            have h : endN vars (max 0 metas) k i b = 23 := by unfold endN; rw [if_neg (by rw [H24.out]; decide), if_pos h23]
            rw [HE.out, h, if_neg (by decide)])
          clear h23
          go_wp2_with fail
          go_ret
          exact ⟨ret_int HC.out.symm, hbl⟩
        | false =>
        have HL : Hid (chkL vars (max 0 params) (max 0 metas) (max 0 levels) (preT (.mk k i nm ls ks) b d) = chkL vars (max 0 params) (max 0 metas) (max 0 levels) (preL ks k b d 0)) := Lib.hid (by
          have h : endN vars (max 0 metas) k i b = 0 := by unfold endN; rw [if_neg (by rw [H24.out]; decide), if_neg (by rw [h23]; decide)]
          rw [HE.out, h, if_pos rfl])
        clear h23 H24 HE
        go_wp2_with fail
        go_loopw [15] (fun v wx => ∃ j : Nat, j ≤ ks.length ∧ v = .int .i64 (j : Int) ∧ Hid (chkL vars (max 0 params) (max 0 metas) (max 0 levels) (preL ks k b d 0) = chkL vars (max 0 params) (max 0 metas) (max 0 levels) (preL (ks.drop j) k b d j)) ∧ BxT w B (.mk k i nm ls ks) (.int .i64 k) (.int .i64 i) (.string nm) (.slice AL ls.length cl) (.slice AK ks.length ck) wx) (fun v _ => ks.length - (intOf v).toNat)
        case atStart => exact ⟨0, Nat.zero_le _, rfl, Lib.hid rfl, HS.out⟩
        case round =>
          obtain ⟨j, hj, rfl, HJ, hS⟩ := hrel
          have HS := Lib.hid hS
          clear x0 x1 x2 x3 x4 hbl hsz hji hjn
          obtain ⟨x0, x1, x2, x3, x4, htm, hbl, hsz, hszw⟩ := hS
          by_cases hjl : j < ks.length
          · rw [TmV] at htm
            obtain ⟨AL', cl', AK', ck', hve, _, _, hks⟩ := htm
            simp only [Value.agg.injEq, Array.mk.injEq, List.cons.injEq, Value.slice.injEq, and_true, true_and] at hve
            obtain ⟨⟨rfl, rfl⟩, rfl, rfl⟩ := hve
            obtain ⟨kb, ko, rfl, hkb, hkc⟩ := hks (by omega)
            obtain ⟨d0, d1, d2, d3, d4, y0, y1, y2, y3, y4, hq⟩ := hkc.at_ (List.getElem?_eq_getElem hjl)
            have HQ := Lib.hid hq
            have HD := Lib.hid (preL_drop (k := k) (b := b) (d := d) hjl)
            have hst := szL_mem (List.getElem_mem hjl)
            have hszq : szT ks[j] ≤ n := by have := HSZ.out; omega
            have HBD := Lib.hid (binI_bind k j)
            have hbp : b + (if 0 < j ∧ j = bindK k then 1 else 0) + n ≤ 1000000000 := by split <;> omega
            have hb1 : (if 0 < j ∧ j = bindK k then 1 else 0 : Nat) ≤ 1 := by split <;> omega
            generalize hgb : (if 0 < j ∧ j = bindK k then 1 else 0 : Nat) = bb at *
            generalize hgq : ks[j] = q at *
            clear hgb hgq hst hq hkc hks
            have HBe := Lib.hid (fun W => rbelow_any k j W)
            go_wp2_with fail
            have HB := Lib.hid (Below.refl wr.drew.heap.size wr.drew)
            have HNX := Lib.hid (show ∀ w9, Below wr.drew.heap.size wr.drew w9 → BxT w B (.mk k i nm ls ks) (.int .i64 k) (.int .i64 i) (.string nm) (.slice AL ls.length cl) (.slice (some ⟨kb, ko, none⟩) ks.length ck) w9 ∧ TmV w9 B q (.agg #[d0, d1, d2, d3, d4]) ∧ w9.cell? ⟨kb, ko + j * 5, none⟩ = some d0 ∧ w9.cell? ⟨kb, ko + j * 5 + 1, none⟩ = some d1 ∧ w9.cell? ⟨kb, ko + j * 5 + 2, none⟩ = some d2 ∧ w9.cell? ⟨kb, ko + j * 5 + 3, none⟩ = some d3 ∧ w9.cell? ⟨kb, ko + j * 5 + 4, none⟩ = some d4 from fun w9 hb => by
              have hb' : Below wr.heap.size wr w9 := ⟨hb.os, hb.tape, hb.output, hb.size, hb.block⟩
              have hkl' : kb < wr.heap.size := by omega
              exact ⟨HS.out.next hb', HQ.out.below hb' hsz, (hb'.cell (p := ⟨kb, ko + j * 5, none⟩) hkl').trans y0, (hb'.cell (p := ⟨kb, ko + j * 5 + 1, none⟩) hkl').trans y1, (hb'.cell (p := ⟨kb, ko + j * 5 + 2, none⟩) hkl').trans y2, (hb'.cell (p := ⟨kb, ko + j * 5 + 3, none⟩) hkl').trans y3, (hb'.cell (p := ⟨kb, ko + j * 5 + 4, none⟩) hkl').trans y4⟩)
            have HI := Lib.hid (show ∀ W, TmV W B q (.agg #[d0, d1, d2, d3, d4]) → B ≤ W.heap.size → Calls Tryd.prog 53 #[.agg #[d0, d1, d2, d3, d4], .int .i64 ((b : Int) + (bb : Int)), .int .i64 vars, .int .i64 params, .int .i64 metas, .int .i64 levels] W fun e w' => e = .returned (.int .i64 (chkL vars (max 0 params) (max 0 metas) (max 0 levels) (preT q (b + bb) (d + 1)))) ∧ Below W.heap.size W w' from fun W hq hBW => by
              have h := IH.out q _ (b + bb) (d + 1) B W hszq hbp hq hBW
              rw [Int.natCast_add] at h
              exact h)
            have HRK := Lib.hid (And.intro hbl (And.intro hsz hszw))
            clear x1 x2 x3
            refine wp_region_held_drew (S := fun w' => w'.cell? ⟨w.heap.size, 0, none⟩ = some (.int .i64 k) ∧ w'.cell? ⟨w.heap.size, 4, none⟩ = some (.slice (some ⟨kb, ko, none⟩) ks.length ck) ∧ w'.cell? ⟨kb, ko + j * 5, none⟩ = some d0 ∧ w'.cell? ⟨kb, ko + j * 5 + 1, none⟩ = some d1 ∧ w'.cell? ⟨kb, ko + j * 5 + 2, none⟩ = some d2 ∧ w'.cell? ⟨kb, ko + j * 5 + 3, none⟩ = some d3 ∧ w'.cell? ⟨kb, ko + j * 5 + 4, none⟩ = some d4) (by kernel_rfl) (⟨(HNX.out _ HB.out).1.x0, (HNX.out _ HB.out).1.x4, (HNX.out _ HB.out).2.2⟩) ?_
            intro hS
            refine wpAnyH_take (i := 0) (oi := { dst := some 88, op := Op.fieldAddr 25 (Operand.tmp 6) 4, type := 0, pos := "ref.go:119", after := #[], guard := none }) (v := .pointer (some ⟨w.heap.size, 4, none⟩)) rfl (by kernel_rfl) (by kernel_rfl) (by kernel_rfl) (fun _ _ _ h => h) (Or.inl ⟨by rfl, ?_⟩) hS ?_
            · intro w9 hSw
              obtain ⟨s0, s1, s2, s3, s4, s5, s6⟩ := hSw
              go_simp
            simp only [Act.put, List.setIfInBounds_toArray, List.set_cons_zero, List.set_cons_succ]
            refine wpAnyH_take (i := 1) (oi := { dst := some 89, op := Op.load 23 (Operand.tmp 88), type := 23, pos := "ref.go:119", after := #[{ on := 0, ground := Ground.data }], guard := none }) (v := .slice (some ⟨kb, ko, none⟩) ks.length ck) rfl (by kernel_rfl) (by kernel_rfl) (by kernel_rfl) (fun _ _ _ h => h) (Or.inl ⟨by rfl, ?_⟩) hS ?_
            · intro w9 hSw
              obtain ⟨s0, s1, s2, s3, s4, s5, s6⟩ := hSw
              go_simp
            simp only [Act.put, List.setIfInBounds_toArray, List.set_cons_zero, List.set_cons_succ]
            refine wpAnyH_take (i := 2) (oi := { dst := some 90, op := Op.move (Operand.tmp 15), type := 3, pos := "ref.go:119", after := #[], guard := none }) (v := .int .i64 j) rfl (by kernel_rfl) (by kernel_rfl) (by kernel_rfl) (fun _ _ _ h => h) (Or.inl ⟨by rfl, ?_⟩) hS ?_
            · intro w9 hSw
              obtain ⟨s0, s1, s2, s3, s4, s5, s6⟩ := hSw
              go_simp
            simp only [Act.put, List.setIfInBounds_toArray, List.set_cons_zero, List.set_cons_succ]
            refine wpAnyH_take (i := 3) (oi := { dst := some 91, op := Op.indexAddr 23 (Operand.tmp 89) (Operand.tmp 90), type := 0, pos := "ref.go:119", after := #[{ on := 1, ground := Ground.data }, { on := 2, ground := Ground.data }], guard := none }) (v := .pointer (some ⟨kb, ko + j * 5, none⟩)) rfl (by kernel_rfl) (by kernel_rfl) (by kernel_rfl) (fun _ _ _ h => h) (Or.inl ⟨by rfl, ?_⟩) hS ?_
            · intro w9 hSw
              obtain ⟨s0, s1, s2, s3, s4, s5, s6⟩ := hSw
              go_simp
            simp only [Act.put, List.setIfInBounds_toArray, List.set_cons_zero, List.set_cons_succ]
            refine wpAnyH_take (i := 4) (oi := { dst := some 92, op := Op.load 25 (Operand.tmp 91), type := 25, pos := "ref.go:119", after := #[{ on := 3, ground := Ground.data }], guard := none }) (v := .agg #[d0, d1, d2, d3, d4]) rfl (by kernel_rfl) (by kernel_rfl) (by kernel_rfl) (fun _ _ _ h => h) (Or.inl ⟨by rfl, ?_⟩) hS ?_
            · intro w9 hSw
              obtain ⟨s0, s1, s2, s3, s4, s5, s6⟩ := hSw
              go_simp
            simp only [Act.put, List.setIfInBounds_toArray, List.set_cons_zero, List.set_cons_succ]
            refine wpAnyH_take (i := 5) (oi := { dst := some 93, op := Op.move (Operand.tmp 1), type := 3, pos := "ref.go:119", after := #[], guard := none }) (v := .int .i64 b) rfl (by kernel_rfl) (by kernel_rfl) (by kernel_rfl) (fun _ _ _ h => h) (Or.inl ⟨by rfl, ?_⟩) hS ?_
            · intro w9 hSw
              obtain ⟨s0, s1, s2, s3, s4, s5, s6⟩ := hSw
              go_simp
            simp only [Act.put, List.setIfInBounds_toArray, List.set_cons_zero, List.set_cons_succ]
            refine wpAnyH_take (i := 6) (oi := { dst := some 94, op := Op.fieldAddr 25 (Operand.tmp 6) 0, type := 0, pos := "ref.go:119", after := #[], guard := none }) (v := .pointer (some ⟨w.heap.size, 0, none⟩)) rfl (by kernel_rfl) (by kernel_rfl) (by kernel_rfl) (fun _ _ _ h => h) (Or.inl ⟨by rfl, ?_⟩) hS ?_
            · intro w9 hSw
              obtain ⟨s0, s1, s2, s3, s4, s5, s6⟩ := hSw
              go_simp
            simp only [Act.put, List.setIfInBounds_toArray, List.set_cons_zero, List.set_cons_succ]
            refine wpAnyH_take (i := 7) (oi := { dst := some 95, op := Op.load 3 (Operand.tmp 94), type := 3, pos := "ref.go:119", after := #[{ on := 6, ground := Ground.data }], guard := none }) (v := .int .i64 k) rfl (by kernel_rfl) (by kernel_rfl) (by kernel_rfl) (fun _ _ _ h => h) (Or.inl ⟨by rfl, ?_⟩) hS ?_
            · intro w9 hSw
              obtain ⟨s0, s1, s2, s3, s4, s5, s6⟩ := hSw
              go_simp
            simp only [Act.put, List.setIfInBounds_toArray, List.set_cons_zero, List.set_cons_succ]
            refine wpAnyH_take (i := 8) (oi := { dst := some 96, op := Op.move (Operand.tmp 15), type := 3, pos := "ref.go:119", after := #[], guard := none }) (v := .int .i64 j) rfl (by kernel_rfl) (by kernel_rfl) (by kernel_rfl) (fun _ _ _ h => h) (Or.inl ⟨by rfl, ?_⟩) hS ?_
            · intro w9 hSw
              obtain ⟨s0, s1, s2, s3, s4, s5, s6⟩ := hSw
              go_simp
            simp only [Act.put, List.setIfInBounds_toArray, List.set_cons_zero, List.set_cons_succ]
            refine wpAnyH_take (i := 11) (oi := { dst := some 99, op := Op.move (Operand.tmp 2), type := 3, pos := "ref.go:119", after := #[], guard := none }) (v := .int .i64 vars) rfl (by kernel_rfl) (by kernel_rfl) (by kernel_rfl) (fun _ _ _ h => h) (Or.inl ⟨by rfl, ?_⟩) hS ?_
            · intro w9 hSw
              obtain ⟨s0, s1, s2, s3, s4, s5, s6⟩ := hSw
              go_simp
            simp only [Act.put, List.setIfInBounds_toArray, List.set_cons_zero, List.set_cons_succ]
            refine wpAnyH_take (i := 12) (oi := { dst := some 100, op := Op.move (Operand.tmp 3), type := 3, pos := "ref.go:119", after := #[], guard := none }) (v := .int .i64 params) rfl (by kernel_rfl) (by kernel_rfl) (by kernel_rfl) (fun _ _ _ h => h) (Or.inl ⟨by rfl, ?_⟩) hS ?_
            · intro w9 hSw
              obtain ⟨s0, s1, s2, s3, s4, s5, s6⟩ := hSw
              go_simp
            simp only [Act.put, List.setIfInBounds_toArray, List.set_cons_zero, List.set_cons_succ]
            refine wpAnyH_take (i := 13) (oi := { dst := some 101, op := Op.move (Operand.tmp 4), type := 3, pos := "ref.go:119", after := #[], guard := none }) (v := .int .i64 metas) rfl (by kernel_rfl) (by kernel_rfl) (by kernel_rfl) (fun _ _ _ h => h) (Or.inl ⟨by rfl, ?_⟩) hS ?_
            · intro w9 hSw
              obtain ⟨s0, s1, s2, s3, s4, s5, s6⟩ := hSw
              go_simp
            simp only [Act.put, List.setIfInBounds_toArray, List.set_cons_zero, List.set_cons_succ]
            refine wpAnyH_take (i := 14) (oi := { dst := some 102, op := Op.move (Operand.tmp 5), type := 3, pos := "ref.go:119", after := #[], guard := none }) (v := .int .i64 levels) rfl (by kernel_rfl) (by kernel_rfl) (by kernel_rfl) (fun _ _ _ h => h) (Or.inl ⟨by rfl, ?_⟩) hS ?_
            · intro w9 hSw
              obtain ⟨s0, s1, s2, s3, s4, s5, s6⟩ := hSw
              go_simp
            simp only [Act.put, List.setIfInBounds_toArray, List.set_cons_zero, List.set_cons_succ]
            refine wpAnyH_ready (rs := [9]) (by kernel_rfl) (List.cons_ne_nil _ _) ?_
            refine AllReadyH.cons (o := { dst := some 97, op := Op.call { callee := Callee.value (Operand.func 59), args := #[Operand.tmp 95, Operand.tmp 96], argTypes := #[3, 3] }, type := 3, pos := "ref.go:119", after := #[{ on := 7, ground := Ground.data }, { on := 8, ground := Ground.data }], guard := none }) rfl (fun K hK => ?_) AllReadyH.nil
            go_simp
            go_at_call 59
            refine (HBe.out _).mono ?_
            rw [HBD.out]
            rintro e w7 ⟨rfl, hw7⟩
            have HB := Lib.hid (show Below wr.drew.heap.size wr.drew w7 from by rw [hw7]; exact HB.out)
            clear hw7
            try go_simp
            refine hK _ _ (⟨(HNX.out _ HB.out).1.x0, (HNX.out _ HB.out).1.x4, (HNX.out _ HB.out).2.2⟩) ?_
            clear hS
            intro hS
            clear hK K
            refine wpAnyH_take (i := 10) (oi := { dst := some 98, op := Op.binOp BinOp.add 3 (Operand.tmp 93) (Operand.tmp 97) 3, type := 3, pos := "ref.go:119", after := #[{ on := 5, ground := Ground.data }, { on := 9, ground := Ground.data }], guard := none }) (v := .int .i64 ((b : Int) + (bb : Int))) rfl (by kernel_rfl) (by kernel_rfl) (by kernel_rfl) (fun _ _ _ h => h) (Or.inl ⟨by rfl, ?_⟩) hS ?_
            · intro w9 hSw
              obtain ⟨s0, s1, s2, s3, s4, s5, s6⟩ := hSw
              go_simp
              rw [IntKind.wrap_i64]
              omega
            simp only [Act.put, List.setIfInBounds_toArray, List.set_cons_zero, List.set_cons_succ]
            refine wpAnyH_ready (rs := [15]) (by kernel_rfl) (List.cons_ne_nil _ _) ?_
            refine AllReadyH.cons (o := { dst := some 103, op := Op.call { callee := Callee.value (Operand.func 53), args := #[Operand.tmp 92, Operand.tmp 98, Operand.tmp 99, Operand.tmp 100, Operand.tmp 101, Operand.tmp 102], argTypes := #[25, 3, 3, 3, 3, 3] }, type := 3, pos := "ref.go:119", after := #[{ on := 4, ground := Ground.data }, { on := 10, ground := Ground.data }, { on := 11, ground := Ground.data }, { on := 12, ground := Ground.data }, { on := 13, ground := Ground.data }, { on := 14, ground := Ground.data }, { on := 9, ground := Ground.chain }], guard := none }) rfl (fun K hK => ?_) AllReadyH.nil
            go_simp
            go_at_call 53
            refine (HI.out _ (HNX.out _ HB.out).2.1 (HNX.out _ HB.out).1.size).mono ?_
            rintro e w8 ⟨rfl, hb7⟩
            have HB := Lib.hid (HB.out.trans (hb7.mono HB.out.size))
            clear hb7
            try go_simp
            refine hK _ _ (⟨(HNX.out _ HB.out).1.x0, (HNX.out _ HB.out).1.x4, (HNX.out _ HB.out).2.2⟩) ?_
            clear hS
            intro hS
            clear hK K
            refine wpAnyH_take (i := 16) (oi := { dst := some 16, op := Op.assign (Operand.tmp 103), type := 3, pos := "ref.go:119", after := #[{ on := 15, ground := Ground.data }, { on := 15, ground := Ground.chain }, { on := 0, ground := Ground.phase }, { on := 1, ground := Ground.phase }, { on := 2, ground := Ground.phase }, { on := 3, ground := Ground.phase }, { on := 4, ground := Ground.phase }, { on := 5, ground := Ground.phase }, { on := 6, ground := Ground.phase }, { on := 7, ground := Ground.phase }, { on := 8, ground := Ground.phase }, { on := 9, ground := Ground.phase }, { on := 10, ground := Ground.phase }, { on := 11, ground := Ground.phase }, { on := 12, ground := Ground.phase }, { on := 13, ground := Ground.phase }, { on := 14, ground := Ground.phase }, { on := 15, ground := Ground.phase }], guard := none }) (v := .int .i64 (chkL vars (max 0 params) (max 0 metas) (max 0 levels) (preT q (b + bb) (d + 1)))) rfl (by kernel_rfl) (by kernel_rfl) (by kernel_rfl) (fun _ _ _ h => h) (Or.inl ⟨by rfl, ?_⟩) hS ?_
            · intro w9 hSw
              obtain ⟨s0, s1, s2, s3, s4, s5, s6⟩ := hSw
              go_simp
            simp only [Act.put, List.setIfInBounds_toArray, List.set_cons_zero, List.set_cons_succ]
            refine wpAnyH_done (by kernel_rfl) ?_ _
            obtain ⟨hHS, hbx⟩ : Hid (BxT w B (.mk k i nm ls ks) (.int .i64 k) (.int .i64 i) (.string nm) (.slice AL ls.length cl) (.slice (some ⟨kb, ko, none⟩) ks.length ck) w8) ∧ True := ⟨Lib.hid (HNX.out _ HB.out).1, trivial⟩
            have hAP := chkL_append (vars := vars) (params := max 0 params) (metas := max 0 metas) (levels := max 0 levels) (preL (ks.drop (j + 1)) k b d (j + 1)) (preT q (b + bb) (d + 1))
            obtain ⟨ev, hev⟩ : ∃ ev, chkL vars (max 0 params) (max 0 metas) (max 0 levels) (preT q (b + bb) (d + 1)) = ev := ⟨_, rfl⟩
            have HEV := Lib.hid hev
            have HAP := Lib.hid hAP
            rw [hev]
            clear hev hAP hS
            cases h0 : (ev == 0) with
            | true =>
              have hz : chkL vars (max 0 params) (max 0 metas) (max 0 levels) (preL ks k b d 0) = chkL vars (max 0 params) (max 0 metas) (max 0 levels) (preL (ks.drop (j + 1)) k b d (j + 1)) := by
                rw [HJ.out, HD.out, HAP.out, HEV.out, if_pos (by simpa using h0)]
              have HZ := Lib.hid hz
              clear hz
              go_wp2_with fail
              go_roundw
              case rel => exact ⟨j + 1, hjl, by go_num, HZ, hHS.out⟩
              case measure => simp [intOf]; omega
            | false =>
              have hne : ev ≠ 0 := by simpa using h0
              have HC : Hid (chkL vars (max 0 params) (max 0 metas) (max 0 levels) (preT (.mk k i nm ls ks) b d) = ev) := Lib.hid (by rw [HL.out, HJ.out, HD.out, HAP.out, HEV.out, if_neg hne])
              clear hne
              go_wp2_with fail
              go_ret
              exact ⟨ret_int HC.out.symm, hHS.out.below⟩
          · have HC : Hid (chkL vars (max 0 params) (max 0 metas) (max 0 levels) (preT (.mk k i nm ls ks) b d) = 0) := Lib.hid (by rw [HL.out, HJ.out, List.drop_of_length_le (by omega), preL]; rfl)
            have hjn : ¬ j < ks.length := hjl
            have hji : decide ((j : Int) < (ks.length : Int)) = false := by rw [decide_eq_false_iff_not]; omega
            go_wp2_with fail
            go_ret
            exact ⟨ret_int HC.out.symm, hbl⟩
end Go.Proofs.YtobaeeobfcffoaaDoor
