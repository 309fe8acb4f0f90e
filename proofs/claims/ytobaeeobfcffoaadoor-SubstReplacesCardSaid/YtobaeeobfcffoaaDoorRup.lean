/- Under and Subst of the reference. -/
import Derived.Test.YtobaeeobfcffoaaDoorRsu
import Derived.Test.YtobaeeobfcffoaaDoorRst
namespace Go.Proofs.YtobaeeobfcffoaaDoor
open Go.RowKit

theorem VsP.of {w : World} {B pw : Nat} {AV : Option Addr} {vals : List Tm} (h : VsV w B AV vals) (hp : B ≤ pw) : VsP w (fun q => q < B ∧ q ≠ pw) AV vals :=
  ⟨h.1, fun hn => by
    obtain ⟨b, o, e, hb, hk⟩ := h.2 hn
    exact ⟨b, o, e, ⟨hb, by omega⟩, KsP.mono (S := (· < B)) (fun q hq _ => ⟨hq, by omega⟩) _ _ _ (KsP.of b _ _ hk)⟩⟩
set_option maxRecDepth 100000 in
set_option maxHeartbeats 16000000 in
theorem runder_any (t : Tm) (v : Value) (vals : List Tm) (AV : Option Addr) (cv : Nat) (dep : Int) (B : Nat) (w : World) (hv : TmV w B t v) (hvs : VsV w B AV vals) (hB : B ≤ w.heap.size) (hsz : szT t ≤ 4096) (hq : AllT Qv t 0) (hvals : ∀ x ∈ vals, szT x ≤ 4096 ∧ AllT Qv x 0) (hvl : vals.length ≤ 1000000) (hdep : -9223372036854775808 ≤ dep ∧ dep ≤ 9223372036854775807) (hss : (ruS vals dep t).e = 0 → ¬ 4096 < (ruS vals dep t).n → szT (ruS vals dep t).t ≤ 1000000000) :
    Calls Tryd.prog 18 #[v, .slice AV vals.length cv, .int .i64 dep] w (GivesP (ruE vals dep t) (ruO vals dep t) (fun q => q < B ∨ w.heap.size ≤ q) w) := by
  obtain ⟨k, i, nm, AL, nl, cl, AK, nk, ck, rfl, _⟩ := TmP.open_ (TmP.of t v hv)
  by_cases hbad : dep < 0
  · have e1 : ruE vals dep t = 2 := by unfold ruE; rw [if_pos hbad]
    have e2 : ruO vals dep t = nilT := by unfold ruO; rw [e1]; rfl
    rw [e1, e2]
    clear e1 e2
    have hend : ∀ w', Below w.heap.size w w' → GivesP 2 nilT (fun q => q < B ∨ w.heap.size ≤ q) w (.returned (.tuple #[zeroV, .int .i64 2])) w' := fun w' hb => ⟨hb, _, _, _, _, _, _, _, _, _, rfl, tmP_vr' w' _ 0 none 0 none 0⟩
    have HEND := Lib.hid hend
    clear hend
    have d1 : decide (dep < 0) = true := decide_eq_true hbad
    go_enter Tryd.func18, Tryd.ntmps18
    go_wp2
    exact bodyPost_ret (v := .tuple #[zeroV, .int .i64 2]) (by simp [results, Tryd.results18, go_sem, zeroV]) rfl (HEND.out _ (((Below.refl _ _).alloc (Nat.le_refl _) _).alloc (by simp) _))
  · have d1 : decide (dep < 0) = false := by rw [decide_eq_false_iff_not]; omega
    obtain ⟨W3, hW3⟩ : ∃ W3, W3 = (((w.alloc (.cells #[.int .i64 k, .int .i64 i, .string nm, .slice AL nl cl, .slice AK nk ck] 25)).alloc (.cells #[.int .i64 0, .int .i64 0, .string ⟨#[]⟩, .slice none 0 0, .slice none 0 0] 25)).alloc (.cells #[.int .i64 0, .int .i64 0] 63)) := ⟨_, rfl⟩
    have hs3 : W3.heap.size = w.heap.size + 1 + 1 + 1 := by rw [hW3]; simp
    have hb3 : Below w.heap.size w W3 := by rw [hW3]; exact (((Below.refl _ _).alloc (Nat.le_refl _) _).alloc (by simp) _).alloc (by simp; omega) _
    have hb5 : B5 (w.heap.size + 1) (.int .i64 0) (.int .i64 0) (.string ⟨#[]⟩) (.slice none 0 0) (.slice none 0 0) W3 := by rw [hW3]; exact ⟨by go_simp, by go_simp, by go_simp, by go_simp, by go_simp, by go_simp, by go_simp, by go_simp, by go_simp, by go_simp⟩
    have hwk : WkS (w.heap.size + 1 + 1) 0 ((0 : Nat) : Int) W3 := by rw [hW3]; exact ⟨by go_simp, by go_simp, by go_simp, by go_simp⟩
    have hm : 0 ≤ min dep 65536 ∧ min dep 65536 ≤ 65536 := by omega
    have hcall := rsubst_any vals AV cv (fun x hx => ⟨by have := (hvals x hx).1; omega, (hvals x hx).2⟩) hvl 4096 t (.agg #[.int .i64 k, .int .i64 i, .string nm, .slice AL nl cl, .slice AK nk ck]) (min dep 65536).toNat B (w.heap.size + 1 + 1) 0 0 W3 hsz (by omega) (by omega) (qv_any _ hq) (TmP.mono (fun q h _ => ⟨h, by omega⟩) _ _ (TmP.of _ _ (hv.below hb3 hB))) (VsP.of (hvs.below hb3 hB) (by omega)) (by omega) hwk
    rw [show (((min dep 65536).toNat : Nat) : Int) = min dep 65536 by omega] at hcall
    have HC := Lib.hid hcall
    have HN := Lib.hid (suT_le (vals := vals) (fun x hx => by have := (hvals x hx).1; omega) t (min dep 65536).toNat 0 (by omega))
    have HE0 := Lib.hid (show ruE vals dep t = if 4096 < (ruS vals dep t).n then 5 else if (ruS vals dep t).e ≠ 0 then (ruS vals dep t).e else if 200 < dpT (ruS vals dep t).t then 7 else 0 by unfold ruE; rw [if_neg hbad])
    have HW3 := Lib.hid hW3
    have HAF := Lib.hid (show ∀ e w8, RuP (w.heap.size + 1 + 1) B 0 (ruS vals dep t) W3 e w8 → ∃ rk ri rn rAL rnl rcl rAK rnk rck, e = .returned (.agg #[.int .i64 rk, .int .i64 ri, .string rn, .slice rAL rnl rcl, .slice rAK rnk rck]) ∧ Hid (Below w.heap.size w (w8.alloc (.cells #[.int .i64 rk, .int .i64 ri, .string rn, .slice rAL rnl rcl, .slice rAK rnk rck] 25)) ∧ WkS (w.heap.size + 1 + 1) (ruS vals dep t).e (ruS vals dep t).n (w8.alloc (.cells #[.int .i64 rk, .int .i64 ri, .string rn, .slice rAL rnl rcl, .slice rAK rnk rck] 25)) ∧ B5 (w.heap.size + 1) (.int .i64 0) (.int .i64 0) (.string ⟨#[]⟩) (.slice none 0 0) (.slice none 0 0) (w8.alloc (.cells #[.int .i64 rk, .int .i64 ri, .string rn, .slice rAL rnl rcl, .slice rAK rnk rck] 25)) ∧ B5 w8.heap.size (.int .i64 rk) (.int .i64 ri) (.string rn) (.slice rAL rnl rcl) (.slice rAK rnk rck) (w8.alloc (.cells #[.int .i64 rk, .int .i64 ri, .string rn, .slice rAL rnl rcl, .slice rAK rnk rck] 25)) ∧ TmP (w8.alloc (.cells #[.int .i64 rk, .int .i64 ri, .string rn, .slice rAL rnl rcl, .slice rAK rnk rck] 25)) (fun q => (q ≠ w.heap.size + 1 ∧ (q < B ∨ w.heap.size ≤ q)) ∧ q < w8.heap.size) (ruS vals dep t).t (.agg #[.int .i64 rk, .int .i64 ri, .string rn, .slice rAL rnl rcl, .slice rAK rnk rck])) from by
      rintro e w8 ⟨hk8, hw8, rk, ri, rn, rAL, rnl, rcl, rAK, rnk, rck, rfl, ht8⟩
      rw [er_zero] at hw8
      have hsz8 := hk8.size
      have hba := alB w8 (.cells #[.int .i64 rk, .int .i64 ri, .string rn, .slice rAL rnl rcl, .slice rAK rnk rck] 25)
      have hb8 : Below w.heap.size w w8 := hb3.trans ⟨hk8.os, hk8.tape, hk8.output, by omega, fun q hq => hk8.block q (by omega) (by show q ≠ _; omega)⟩
      exact ⟨rk, ri, rn, rAL, rnl, rcl, rAK, rnk, rck, rfl, Lib.hid ⟨hb8.trans (hba.mono (by omega)), hw8.next hba, (hb5.kp hk8 (by omega)).next hba, B5.new w8 _ _ _ _ _, TmP.keep (S := fun q => (q ≠ w.heap.size + 1 ∧ (q < B ∨ w.heap.size ≤ q)) ∧ q < w8.heap.size) (fun p hp => hba.cell hp.2) _ _ (TmP.mono (fun q h hl => ⟨⟨by omega, by omega⟩, hl⟩) _ _ ht8)⟩⟩)
    have HQZ : Hid (ruO vals dep t = if ruE vals dep t = 0 then (ruS vals dep t).t else nilT) := Lib.hid rfl
    have HT := Lib.hid (show ∀ (w9 : World) (r : Tm) (rk ri : Int) (rn : ByteArray) (rAL : Option Addr) (rnl rcl : Nat) (rAK : Option Addr) (rnk rck : Nat) (err : Int), Below w.heap.size w w9 → B5 (w.heap.size + 1) (.int .i64 0) (.int .i64 0) (.string ⟨#[]⟩) (.slice none 0 0) (.slice none 0 0) w9 → TmP w9 (fun q => q ≠ w.heap.size + 1 ∧ (q < B ∨ w.heap.size ≤ q)) r (.agg #[.int .i64 rk, .int .i64 ri, .string rn, .slice rAL rnl rcl, .slice rAK rnk rck]) → B5 (w.heap.size + 1) (.int .i64 rk) (.int .i64 ri) (.string rn) (.slice rAL rnl rcl) (.slice rAK rnk rck) (set5 w9 (w.heap.size + 1) 0 (.int .i64 rk) (.int .i64 ri) (.string rn) (.slice rAL rnl rcl) (.slice rAK rnk rck)) ∧ GivesP err r (fun q => q < B ∨ w.heap.size ≤ q) w (.returned (.tuple #[.agg #[.int .i64 rk, .int .i64 ri, .string rn, .slice rAL rnl rcl, .slice rAK rnk rck], .int .i64 err])) (set5 w9 (w.heap.size + 1) 0 (.int .i64 rk) (.int .i64 ri) (.string rn) (.slice rAL rnl rcl) (.slice rAK rnk rck)) from
      fun w9 r rk ri rn rAL rnl rcl rAK rnk rck err hb b5 ht => ⟨b5.put _ _ _ _ _, below_set5 hb (by omega) 0 _ _ _ _ _, _, _, _, _, _, _, _, _, _, rfl, TmP.mono (fun q h _ => h.2) _ _ (TmP.keep (fun p hp => set5_far (b := w.heap.size + 1) (o := 0) hp.1) _ _ ht)⟩)
    have HLE := Lib.hid (show ∀ w' , Below w'.heap.size w' w'.drew from fun w' => (Below.refl _ _).drew)
    have HSS := Lib.hid (show (ruS vals dep t).e = 0 → ¬ 4096 < (ruS vals dep t).n → szT (ruS vals dep t).t ≤ 1000000000 from hss)
    have HC2 := Lib.hid (show Calls Tryd.prog 38 _ _ (RuP (w.heap.size + 1 + 1) B 0 (ruS vals dep t) W3) from HC.out)
    have HN2 := Lib.hid (show (ruS vals dep t).n ≤ 1500000 from HN.out)
    generalize ruO vals dep t = RO at *
    generalize ruE vals dep t = RE at *
    clear hcall hwk hb5 hb3 hs3 hW3 HC HN hv hvs hq hvals hss
    generalize ruS vals dep t = S at *
    by_cases hm : dep ≤ 65536
    case' pos =>
      have eM : min dep 65536 = dep := Int.min_eq_left (by omega)
    case' neg =>
      have eM : min dep 65536 = 65536 := Int.min_eq_right (by omega)
    all_goals
      rw [eM] at HC2
      clear eM
      go_enter Tryd.func18, Tryd.ntmps18
      go_wp2_with fail
      all_goals first | (exfalso; omega) | skip
      all_goals
        rw [← HW3.out]
        refine (show Calls Tryd.prog 38 _ _ _ from HC2.out).mono ?_
        intro e w8 h8
        obtain ⟨rk, ri, rn, rAL, rnl, rcl, rAK, rnk, rck, rfl, HH⟩ := HAF.out e w8 h8
        clear h8 HAF HC2 HW3
        go_upto_region 5 with fail
        generalize hnb : w8.heap.size = nb at *
        generalize w8.alloc (.cells #[.int .i64 rk, .int .i64 ri, .string rn, .slice rAL rnl rcl, .slice rAK rnk rck] 25) = w9 at HH ⊢
        clear hnb
        obtain ⟨c0, c1, _, _⟩ := HH.out.2.1
        obtain ⟨y0, y1, y2, y3, y4, _, _, _, _, _⟩ := HH.out.2.2.2.1
        obtain ⟨z0, z1, z2, z3, z4, g0, g1, g2, g3, g4⟩ := HH.out.2.2.1
        by_cases hbig : 4096 < S.n
        · have d2 : decide ((4096 : Int) < (S.n : Int)) = true := decide_eq_true (by omega)
          have HRE := Lib.hid (show RE = 5 by rw [HE0.out]; rw [if_pos hbig])
          have HRO := Lib.hid (show RO = nilT by rw [HQZ.out, HRE.out]; rfl)
          have h5 := HT.out w9 nilT 0 0 ⟨#[]⟩ none 0 0 none 0 0 5 HH.out.1 HH.out.2.2.1 (tmP_vr' _ _ _ _ _ _ _)
          unfold set5 at h5
          simp only [Nat.zero_add] at h5
          have H5 := Lib.hid h5
          clear h5
          go_wp2_with fail
          generalize (((((w9.setCell ⟨w.heap.size + 1, 0, none⟩ (.int .i64 0)).setCell ⟨w.heap.size + 1, 1, none⟩ (.int .i64 0)).setCell ⟨w.heap.size + 1, 2, none⟩ (.string ⟨#[]⟩)).setCell ⟨w.heap.size + 1, 3, none⟩ (.slice none 0 0)).setCell ⟨w.heap.size + 1, 4, none⟩ (.slice none 0 0)) = w12 at H5 ⊢
          clear z0 z1 z2 z3 z4 g0 g1 g2 g3 g4
          obtain ⟨z0, z1, z2, z3, z4, g0, g1, g2, g3, g4⟩ := H5.out.1
          exact bodyPost_ret (v := .tuple #[.agg #[.int .i64 0, .int .i64 0, .string ⟨#[]⟩, .slice none 0 0, .slice none 0 0], .int .i64 5]) (by simp [results, Tryd.results18, go_sem, z0, z1, z2, z3, z4]) rfl (by rw [HRE.out, HRO.out]; exact H5.out.2)
        have d2 : decide ((4096 : Int) < (S.n : Int)) = false := decide_eq_false (by omega)
        have HBG := Lib.hid hbig
        by_cases he : S.e = 0
        · have hbb : (S.e == 0) = true := by simpa using he
          have HE := Lib.hid he
          have HTM := Lib.hid (show TmV w9 w9.heap.size S.t (.agg #[.int .i64 rk, .int .i64 ri, .string rn, .slice rAL rnl rcl, .slice rAK rnk rck]) from HH.out.2.2.2.2.tmV)
          have hss : szT S.t ≤ 1000000000 := HSS.out he hbig
          clear he
          go_wp2_with fail
          refine (rdepth_any (szT S.t) S.t _ _ w9 (Nat.le_refl _) hss HTM.out (Nat.le_refl _)).mono ?_
          rintro e w10 ⟨rfl, hb10⟩
          have hbw := HH.out.1.trans (hb10.mono HH.out.1.size)
          have hb5' := HH.out.2.2.1.next hb10
          have ht' : TmP w10 (fun q => q ≠ w.heap.size + 1 ∧ (q < B ∨ w.heap.size ≤ q)) S.t (.agg #[.int .i64 rk, .int .i64 ri, .string rn, .slice rAL rnl rcl, .slice rAK rnk rck]) := TmP.mono (fun q h _ => h.1) _ _ (TmP.keep (S := fun q => (q ≠ w.heap.size + 1 ∧ (q < B ∨ w.heap.size ≤ q)) ∧ q < w9.heap.size) (fun p hp => hb10.cell hp.2) _ _ (TmP.mono (fun q h hl => ⟨h.1, hl⟩) _ _ HH.out.2.2.2.2))
          have hy := HH.out.2.2.2.1.next hb10
          clear y0 y1 y2 y3 y4 z0 z1 z2 z3 z4 g0 g1 g2 g3 g4 c0 c1
          obtain ⟨y0, y1, y2, y3, y4, _, _, _, _, _⟩ := hy
          obtain ⟨z0, z1, z2, z3, z4, g0, g1, g2, g3, g4⟩ := hb5'
          by_cases hdp : 200 < dpT S.t
          · have d3 : decide ((200 : Int) < (dpT S.t : Int)) = true := decide_eq_true (by omega)
            have HRE := Lib.hid (show RE = 7 by rw [HE0.out]; rw [if_neg HBG.out, if_neg (by rw [HE.out]; simp), if_pos hdp])
            have HRO := Lib.hid (show RO = nilT by rw [HQZ.out, HRE.out]; rfl)
            have h5 := HT.out w10 nilT 0 0 ⟨#[]⟩ none 0 0 none 0 0 7 hbw ⟨z0, z1, z2, z3, z4, g0, g1, g2, g3, g4⟩ (tmP_vr' _ _ _ _ _ _ _)
            unfold set5 at h5
            simp only [Nat.zero_add] at h5
            have H5 := Lib.hid h5
            clear h5
            clear hb10 hbw ht' HH
            go_wp2_with fail
            generalize (((((w10.setCell ⟨w.heap.size + 1, 0, none⟩ (.int .i64 0)).setCell ⟨w.heap.size + 1, 1, none⟩ (.int .i64 0)).setCell ⟨w.heap.size + 1, 2, none⟩ (.string ⟨#[]⟩)).setCell ⟨w.heap.size + 1, 3, none⟩ (.slice none 0 0)).setCell ⟨w.heap.size + 1, 4, none⟩ (.slice none 0 0)) = w12 at H5 ⊢
            clear z0 z1 z2 z3 z4 g0 g1 g2 g3 g4
            obtain ⟨z0, z1, z2, z3, z4, g0, g1, g2, g3, g4⟩ := H5.out.1
            exact bodyPost_ret (v := .tuple #[.agg #[.int .i64 0, .int .i64 0, .string ⟨#[]⟩, .slice none 0 0, .slice none 0 0], .int .i64 7]) (by simp [results, Tryd.results18, go_sem, z0, z1, z2, z3, z4]) rfl (by rw [HRE.out, HRO.out]; exact H5.out.2)
          · have d3 : decide ((200 : Int) < (dpT S.t : Int)) = false := decide_eq_false (by omega)
            have HRE := Lib.hid (show RE = 0 by rw [HE0.out]; rw [if_neg HBG.out, if_neg (by rw [HE.out]; simp), if_neg hdp])
            have HRO := Lib.hid (show RO = S.t by rw [HQZ.out, HRE.out]; rfl)
            have h5 := HT.out w10 S.t rk ri rn rAL rnl rcl rAK rnk rck 0 hbw ⟨z0, z1, z2, z3, z4, g0, g1, g2, g3, g4⟩ ht'
            unfold set5 at h5
            simp only [Nat.zero_add] at h5
            have H5 := Lib.hid h5
            clear h5
            clear hb10 hbw ht' HH
            go_wp2_with fail
            generalize (((((w10.setCell ⟨w.heap.size + 1, 0, none⟩ (.int .i64 rk)).setCell ⟨w.heap.size + 1, 1, none⟩ (.int .i64 ri)).setCell ⟨w.heap.size + 1, 2, none⟩ (.string rn)).setCell ⟨w.heap.size + 1, 3, none⟩ (.slice rAL rnl rcl)).setCell ⟨w.heap.size + 1, 4, none⟩ (.slice rAK rnk rck)) = w12 at H5 ⊢
            clear z0 z1 z2 z3 z4 g0 g1 g2 g3 g4
            obtain ⟨z0, z1, z2, z3, z4, g0, g1, g2, g3, g4⟩ := H5.out.1
            exact bodyPost_ret (v := .tuple #[.agg #[.int .i64 rk, .int .i64 ri, .string rn, .slice rAL rnl rcl, .slice rAK rnk rck], .int .i64 0]) (by simp [results, Tryd.results18, go_sem, z0, z1, z2, z3, z4]) rfl (by rw [HRE.out, HRO.out]; exact H5.out.2)
        · have hbb : (S.e == 0) = false := by simpa using he
          have HRE := Lib.hid (show RE = S.e by rw [HE0.out]; rw [if_neg hbig, if_pos he])
          have HRO := Lib.hid (show RO = nilT by rw [HQZ.out, HRE.out]; rw [if_neg he])
          obtain ⟨wd, hwd⟩ : ∃ z, z = w9.drew := ⟨_, rfl⟩
          have hbd : Below w9.heap.size w9 wd := by rw [hwd]; exact HLE.out w9
          have h5 := HT.out wd nilT 0 0 ⟨#[]⟩ none 0 0 none 0 0 S.e (HH.out.1.trans (hbd.mono HH.out.1.size)) (HH.out.2.2.1.next hbd) (tmP_vr' _ _ _ _ _ _ _)
          have hwkd := HH.out.2.1.next hbd
          have hwk := hwkd.kp (w' := set5 wd (w.heap.size + 1) 0 (.int .i64 0) (.int .i64 0) (.string ⟨#[]⟩) (.slice none 0 0) (.slice none 0 0)) (set5_heap (by omega))
          unfold set5 at h5 hwk
          simp only [Nat.zero_add] at h5 hwk
          generalize S.e = xe at *
          have H5 := Lib.hid h5
          have HSD := Lib.hid (show w9.drew.cell? ⟨w.heap.size + 1 + 1, 0, none⟩ = some (.int .i64 xe) from by rw [← hwd]; exact hwkd.c0)
          have HSX := Lib.hid hwk.c0
          have HWD := Lib.hid hwd
          clear z0 z1 z2 z3 z4 g0 g1 g2 g3 g4 y0 y1 y2 y3 y4
          obtain ⟨z0, z1, z2, z3, z4, g0, g1, g2, g3, g4⟩ := HH.out.2.2.1.next hbd
          clear h5 he hwk hwd hbd hwkd
          go_upto_region 8 with fail
          refine wp_region_held_drew (S := fun w' => w'.cell? ⟨w.heap.size + 1 + 1, 0, none⟩ = some (.int .i64 xe)) (by kernel_rfl) (HSD.out) ?_
          intro hS
          rw [← HWD.out] at hS ⊢
          refine wpAnyH_take (i := 0) (oi := { dst := some 32, op := Op.build 25 #[], type := 25, pos := "ref.go:103", after := #[], guard := none }) (v := .agg #[.int .i64 0, .int .i64 0, .string ⟨#[]⟩, .slice none 0 0, .slice none 0 0]) rfl (by kernel_rfl) (by kernel_rfl) (by kernel_rfl) (fun _ _ _ h => h) (Or.inl ⟨by rfl, ?_⟩) hS ?_
          · intro w9 hSw
            have s0 := hSw
            go_simp
          simp only [Act.put, List.setIfInBounds_toArray, List.set_cons_zero, List.set_cons_succ]
          refine wpAnyH_take (i := 1) (oi := { dst := some 33, op := Op.move (Operand.tmp 8), type := 61, pos := "ref.go:103", after := #[{ on := 5, ground := Ground.gcOnly Departure.lateStores }], guard := none }) (v := .pointer (some ⟨w.heap.size + 1 + 1, 0, none⟩)) rfl (by kernel_rfl) (by kernel_rfl) (by kernel_rfl) (fun _ _ _ h => h) (Or.inl ⟨by rfl, ?_⟩) hS ?_
          · intro w9 hSw
            have s0 := hSw
            go_simp
          simp only [Act.put, List.setIfInBounds_toArray, List.set_cons_zero, List.set_cons_succ]
          refine wpAnyH_take (i := 2) (oi := { dst := some 34, op := Op.nilCheck (Operand.tmp 33), type := 0, pos := "ref.go:103", after := #[{ on := 1, ground := Ground.data }, { on := 5, ground := Ground.gcOnly Departure.lateStores }], guard := none }) (v := .pointer (some ⟨w.heap.size + 1 + 1, 0, none⟩)) rfl (by kernel_rfl) (by kernel_rfl) (by kernel_rfl) (fun _ _ _ h => h) (Or.inl ⟨by rfl, ?_⟩) hS ?_
          · intro w9 hSw
            have s0 := hSw
            go_simp
          simp only [Act.put, List.setIfInBounds_toArray, List.set_cons_zero, List.set_cons_succ]
          refine wpAnyH_take (i := 3) (oi := { dst := some 35, op := Op.fieldAddr 63 (Operand.tmp 34) 0, type := 0, pos := "ref.go:103", after := #[{ on := 2, ground := Ground.data }, { on := 5, ground := Ground.gcOnly Departure.lateStores }], guard := none }) (v := .pointer (some ⟨w.heap.size + 1 + 1, 0, none⟩)) rfl (by kernel_rfl) (by kernel_rfl) (by kernel_rfl) (fun _ _ _ h => h) (Or.inl ⟨by rfl, ?_⟩) hS ?_
          · intro w9 hSw
            have s0 := hSw
            go_simp
          simp only [Act.put, List.setIfInBounds_toArray, List.set_cons_zero, List.set_cons_succ]
          refine wpAnyH_take (i := 4) (oi := { dst := some 36, op := Op.load 3 (Operand.tmp 35), type := 3, pos := "ref.go:103", after := #[{ on := 3, ground := Ground.data }, { on := 5, ground := Ground.gcOnly Departure.lateStores }], guard := none }) (v := .int .i64 xe) rfl (by kernel_rfl) (by kernel_rfl) (by kernel_rfl) (fun _ _ _ h => h) (Or.inl ⟨by rfl, ?_⟩) hS ?_
          · intro w9 hSw
            have s0 := hSw
            go_simp
          simp only [Act.put, List.setIfInBounds_toArray, List.set_cons_zero, List.set_cons_succ]
          refine wpAnyH_ready (rs := [5]) (by kernel_rfl) (List.cons_ne_nil _ _) ?_
          refine AllReadyH.cons (o := { dst := none, op := Op.store 25 (Operand.tmp 6) (Operand.tmp 32), type := 0, pos := "ref.go:103", after := #[{ on := 0, ground := Ground.data }, { on := 0, ground := Ground.phase }, { on := 1, ground := Ground.textOnly Departure.lateStores }, { on := 2, ground := Ground.textOnly Departure.lateStores }, { on := 3, ground := Ground.textOnly Departure.lateStores }, { on := 4, ground := Ground.textOnly Departure.lateStores }], guard := none }) rfl (fun K hK => ?_) AllReadyH.nil
          go_simp
          refine hK _ _ (HSX.out) ?_
          clear hS
          intro hS
          clear hK K
          refine wpAnyH_take (i := 6) (oi := { dst := some 7, op := Op.assign (Operand.tmp 36), type := 3, pos := "ref.go:103", after := #[{ on := 4, ground := Ground.data }, { on := 5, ground := Ground.chain }, { on := 0, ground := Ground.phase }, { on := 1, ground := Ground.phase }, { on := 2, ground := Ground.phase }, { on := 3, ground := Ground.phase }, { on := 4, ground := Ground.phase }, { on := 5, ground := Ground.phase }], guard := none }) (v := .int .i64 xe) rfl (by kernel_rfl) (by kernel_rfl) (by kernel_rfl) (fun _ _ _ h => h) (Or.inl ⟨by rfl, ?_⟩) hS ?_
          · intro w9 hSw
            have s0 := hSw
            go_simp
          simp only [Act.put, List.setIfInBounds_toArray, List.set_cons_zero, List.set_cons_succ]
          refine wpAnyH_done (by kernel_rfl) ?_ _
          clear hS HSD HSX HWD
          generalize (((((wd.setCell ⟨w.heap.size + 1, 0, none⟩ (.int .i64 0)).setCell ⟨w.heap.size + 1, 1, none⟩ (.int .i64 0)).setCell ⟨w.heap.size + 1, 2, none⟩ (.string ⟨#[]⟩)).setCell ⟨w.heap.size + 1, 3, none⟩ (.slice none 0 0)).setCell ⟨w.heap.size + 1, 4, none⟩ (.slice none 0 0)) = w12 at H5 ⊢
          clear z0 z1 z2 z3 z4 g0 g1 g2 g3 g4 c0 c1
          obtain ⟨z0, z1, z2, z3, z4, g0, g1, g2, g3, g4⟩ := H5.out.1
          go_wp2_with fail
          exact bodyPost_ret (v := .tuple #[.agg #[.int .i64 0, .int .i64 0, .string ⟨#[]⟩, .slice none 0 0, .slice none 0 0], .int .i64 xe]) (by simp [results, Tryd.results18, go_sem, z0, z1, z2, z3, z4]) rfl (by rw [HRE.out, HRO.out]; exact H5.out.2)
set_option maxRecDepth 100000 in
set_option maxHeartbeats 2000000 in
theorem rsubstT_any (t : Tm) (v : Value) (vals : List Tm) (AV : Option Addr) (cv : Nat) (B : Nat) (w : World) (hv : TmV w B t v) (hvs : VsV w B AV vals) (hB : B ≤ w.heap.size) (hsz : szT t ≤ 4096) (hq : AllT Qv t 0) (hvals : ∀ x ∈ vals, szT x ≤ 4096 ∧ AllT Qv x 0) (hvl : vals.length ≤ 1000000) (hss : (ruS vals 0 t).e = 0 → ¬ 4096 < (ruS vals 0 t).n → szT (ruS vals 0 t).t ≤ 1000000000) :
    Calls Tryd.prog 16 #[v, .slice AV vals.length cv] w (GivesP (ruE vals 0 t) (ruO vals 0 t) (fun q => q < B ∨ w.heap.size ≤ q) w) := by
  have hv0 := TmP.open_ (TmP.of t v hv)
  obtain ⟨k, i, nm, AL, nl, cl, AK, nk, ck, rfl, _⟩ := hv0
  have b1 := B5.new (w.alloc (.cells #[.int .i64 k, .int .i64 i, .string nm, .slice AL nl cl, .slice AK nk ck] 25)) (.int .i64 0) (.int .i64 0) (.string ⟨#[]⟩) (.slice none 0 0) (.slice none 0 0)
  simp only [World.size_alloc] at b1
  have hb : Below w.heap.size w ((w.alloc (.cells #[.int .i64 k, .int .i64 i, .string nm, .slice AL nl cl, .slice AK nk ck] 25)).alloc (.cells #[.int .i64 0, .int .i64 0, .string ⟨#[]⟩, .slice none 0 0, .slice none 0 0] 25)) := ((Below.refl _ _).alloc (Nat.le_refl _) _).alloc (by simp) _
  have HU := Lib.hid (runder_any t _ vals AV cv 0 B _ (hv.below hb hB) (hvs.below hb hB) (by simp; omega) hsz hq hvals hvl (by omega) hss)
  have HB1 := Lib.hid (And.intro hb b1)
  clear hv hvs hb b1 hss
  go_enter Tryd.func16, Tryd.ntmps16
  go_wp2_with fail
  refine (show Calls Tryd.prog 18 _ _ _ from HU.out).mono ?_
  rintro e w9 ⟨hb9, k9, i9, n9, AL9, nl9, cl9, AK9, nk9, ck9, rfl, ht9⟩
  have b9 := HB1.out.2.next hb9
  have hw9 : Below w.heap.size w w9 := HB1.out.1.trans (hb9.mono (by simp; omega))
  have h5 := And.intro (b9.put (.int .i64 k9) (.int .i64 i9) (.string n9) (.slice AL9 nl9 cl9) (.slice AK9 nk9 ck9)) (And.intro (below_set5 hw9 (b := w.heap.size + 1) (by omega) 0 (.int .i64 k9) (.int .i64 i9) (.string n9) (.slice AL9 nl9 cl9) (.slice AK9 nk9 ck9)) (TmP.mono (S' := (fun q => q < B ∨ w.heap.size ≤ q)) (fun q h _ => by simp at h; omega) _ _ (TmP.keep (fun p hp => set5_far (w := w9) (b := w.heap.size + 1) (o := 0) (v0 := .int .i64 k9) (v1 := .int .i64 i9) (v2 := .string n9) (v3 := .slice AL9 nl9 cl9) (v4 := .slice AK9 nk9 ck9) (by rintro e; rw [e] at hp; simp at hp; omega)) _ _ ht9)))
  unfold set5 at h5
  simp only [Nat.zero_add] at h5
  have H5 := Lib.hid h5
  obtain ⟨y0, y1, y2, y3, y4, f0, f1, f2, f3, f4⟩ := b9
  clear h5 hw9 hb9 ht9 HU HB1
  go_wp2_with fail
  generalize (((((w9.setCell ⟨w.heap.size + 1, 0, none⟩ (.int .i64 k9)).setCell ⟨w.heap.size + 1, 1, none⟩ (.int .i64 i9)).setCell ⟨w.heap.size + 1, 2, none⟩ (.string n9)).setCell ⟨w.heap.size + 1, 3, none⟩ (.slice AL9 nl9 cl9)).setCell ⟨w.heap.size + 1, 4, none⟩ (.slice AK9 nk9 ck9)) = w12 at H5 ⊢
  obtain ⟨u0, u1, u2, u3, u4, _, _, _, _, _⟩ := H5.out.1
  exact bodyPost_ret (v := .tuple #[.agg #[.int .i64 k9, .int .i64 i9, .string n9, .slice AL9 nl9 cl9, .slice AK9 nk9 ck9], .int .i64 (ruE vals 0 t)]) (by simp [results, Tryd.results16, go_sem, u0, u1, u2, u3, u4]) rfl ⟨H5.out.2.1, _, _, _, _, _, _, _, _, _, rfl, H5.out.2.2⟩
end Go.Proofs.YtobaeeobfcffoaaDoor
