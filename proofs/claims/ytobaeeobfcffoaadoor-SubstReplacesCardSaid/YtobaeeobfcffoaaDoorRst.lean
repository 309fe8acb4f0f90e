/- Shift of the reference. -/
import Derived.Test.YtobaeeobfcffoaaDoorRsh
namespace Go.Proofs.YtobaeeobfcffoaaDoor
open Go.RowKit
def rsE (by_ fr : Int) (t : Tm) : Int := if fr < 0 ∨ by_ < -65536 ∨ 65536 < by_ then 2 else (cpT (rfR by_ (min fr 65536)) t 0).e
def rsO (by_ fr : Int) (t : Tm) : Tm := if fr < 0 ∨ by_ < -65536 ∨ 65536 < by_ then nilT else if (cpT (rfR by_ (min fr 65536)) t 0).e = 0 then (cpT (rfR by_ (min fr 65536)) t 0).t else nilT
theorem GivesT.more {err : Int} {r : Tm} {w w' w'' : World} {e : Ending} (h : GivesT err r w e w') (hb : Below w'.heap.size w' w'') : GivesT err r w e w'' := by
  obtain ⟨h1, k, i, nm, AL, nl, cl, AK, nk, ck, rfl, ht⟩ := h
  exact ⟨h1.trans (hb.mono h1.size), k, i, nm, AL, nl, cl, AK, nk, ck, rfl, tv_next ht hb⟩
set_option maxRecDepth 100000 in
set_option maxHeartbeats 4000000 in
theorem rst_any (t : Tm) (v : Value) (by_ fr : Int) (B : Nat) (w : World) (hv : TmV w B t v) (hB : B ≤ w.heap.size) (hsz : szT t ≤ 1000000) (hq : AllT Qv t 0) (hfr : -9223372036854775808 ≤ fr ∧ fr ≤ 9223372036854775807) :
    Calls Tryd.prog 13 #[v, .int .i64 by_, .int .i64 fr] w (GivesT (rsE by_ fr t) (rsO by_ fr t) w) := by
  obtain ⟨k, i, nm, AL, nl, cl, AK, nk, ck, rfl, _⟩ := TmP.open_ (TmP.of t v hv)
  have HV := Lib.hid hv
  have HQ := Lib.hid hq
  clear hv hq
  by_cases hbad : fr < 0 ∨ by_ < -65536 ∨ 65536 < by_
  · have e1 : rsE by_ fr t = 2 := by unfold rsE; rw [if_pos hbad]
    have e2 : rsO by_ fr t = nilT := by unfold rsO; rw [if_pos hbad]
    rw [e1, e2]
    clear e1 e2
    have hend : ∀ w', Below w.heap.size w w' → GivesT 2 nilT w (.returned (.tuple #[zeroV, .int .i64 2])) w' := fun w' hb => ⟨hb, _, _, _, _, _, _, _, _, _, rfl, (tmP_vr' w' (· < w'.heap.size) 0 none 0 none 0).tmV⟩
    have HEND := Lib.hid hend
    clear hend
    by_cases h1 : fr < 0
    case' pos =>
      have d1 : decide (fr < 0) = true := decide_eq_true h1
    case' neg =>
      have d1 : decide (fr < 0) = false := decide_eq_false h1
      by_cases h2 : by_ < -65536
      case' pos =>
        have d2 : decide (by_ < -65536) = true := decide_eq_true h2
      case' neg =>
        have d2 : decide (by_ < -65536) = false := decide_eq_false h2
        have d3 : decide (65536 < by_) = true := by rw [decide_eq_true_eq]; omega
    all_goals
      go_enter Tryd.func13, Tryd.ntmps13
      go_wp2
      exact bodyPost_ret (v := .tuple #[zeroV, .int .i64 2]) (by simp [results, Tryd.results13, go_sem, zeroV]) rfl (HEND.out _ (((Below.refl _ _).alloc (Nat.le_refl _) _).alloc (by simp) _))
  · have e1 : rsE by_ fr t = (cpT (rfR by_ (min fr 65536)) t 0).e := by unfold rsE; rw [if_neg hbad]
    have e2 : rsO by_ fr t = if (cpT (rfR by_ (min fr 65536)) t 0).e = 0 then (cpT (rfR by_ (min fr 65536)) t 0).t else nilT := by unfold rsO; rw [if_neg hbad]
    rw [e1, e2]
    clear e1 e2
    have d1 : decide (fr < 0) = false := by rw [decide_eq_false_iff_not]; omega
    have d2 : decide (by_ < -65536) = false := by rw [decide_eq_false_iff_not]; omega
    have d3 : decide (65536 < by_) = false := by rw [decide_eq_false_iff_not]; omega
    obtain ⟨W3, hW3⟩ : ∃ W3, W3 = (((w.alloc (.cells #[.int .i64 k, .int .i64 i, .string nm, .slice AL nl cl, .slice AK nk ck] 25)).alloc (.cells #[.int .i64 0, .int .i64 0, .string ⟨#[]⟩, .slice none 0 0, .slice none 0 0] 25)).alloc (.cells #[.int .i64 0, .int .i64 0] 63)) := ⟨_, rfl⟩
    have hs3 : W3.heap.size = w.heap.size + 1 + 1 + 1 := by rw [hW3]; simp
    have hb3 : Below w.heap.size w W3 := by rw [hW3]; exact (((Below.refl _ _).alloc (Nat.le_refl _) _).alloc (by simp) _).alloc (by simp; omega) _
    have hb5 : B5 (w.heap.size + 1) (.int .i64 0) (.int .i64 0) (.string ⟨#[]⟩) (.slice none 0 0) (.slice none 0 0) W3 := by rw [hW3]; exact ⟨by go_simp, by go_simp, by go_simp, by go_simp, by go_simp, by go_simp, by go_simp, by go_simp, by go_simp, by go_simp⟩
    have hwk : WkS (w.heap.size + 1 + 1) 0 0 W3 := by rw [hW3]; exact ⟨by go_simp, by go_simp, by go_simp, by go_simp⟩
    have hm : 0 ≤ min fr 65536 ∧ min fr 65536 ≤ 65536 := by omega
    have hcall := rshift_any by_ (min fr 65536) (by omega) hm 1000000 t (.agg #[.int .i64 k, .int .i64 i, .string nm, .slice AL nl cl, .slice AK nk ck]) 0 B (w.heap.size + 1 + 1) 0 0 W3 hsz (by omega) HQ.out (TmP.mono (fun q h _ => ⟨h, by omega⟩) _ _ (TmP.of _ _ (HV.out.below hb3 hB))) (by omega) hwk
    have HC := Lib.hid hcall
    have HAF := Lib.hid (show ∀ e w8, RsP (w.heap.size + 1 + 1) B 0 0 (cpT (rfR by_ (min fr 65536)) t 0) W3 e w8 → ∃ rk ri rn rAL rnl rcl rAK rnk rck, e = .returned (.agg #[.int .i64 rk, .int .i64 ri, .string rn, .slice rAL rnl rcl, .slice rAK rnk rck]) ∧ w.heap.size + 1 < w8.heap.size ∧ Hid (∀ o, w8.alloc o = w8.alloc o) ∧ Hid (Below w.heap.size w (w8.alloc (.cells #[.int .i64 rk, .int .i64 ri, .string rn, .slice rAL rnl rcl, .slice rAK rnk rck] 25)) ∧ WkS (w.heap.size + 1 + 1) (cpT (rfR by_ (min fr 65536)) t 0).e 0 (w8.alloc (.cells #[.int .i64 rk, .int .i64 ri, .string rn, .slice rAL rnl rcl, .slice rAK rnk rck] 25)) ∧ B5 (w.heap.size + 1) (.int .i64 0) (.int .i64 0) (.string ⟨#[]⟩) (.slice none 0 0) (.slice none 0 0) (w8.alloc (.cells #[.int .i64 rk, .int .i64 ri, .string rn, .slice rAL rnl rcl, .slice rAK rnk rck] 25)) ∧ B5 w8.heap.size (.int .i64 rk) (.int .i64 ri) (.string rn) (.slice rAL rnl rcl) (.slice rAK rnk rck) (w8.alloc (.cells #[.int .i64 rk, .int .i64 ri, .string rn, .slice rAL rnl rcl, .slice rAK rnk rck] 25)) ∧ TmP (w8.alloc (.cells #[.int .i64 rk, .int .i64 ri, .string rn, .slice rAL rnl rcl, .slice rAK rnk rck] 25)) (fun q => q ≠ w.heap.size + 1) (cpT (rfR by_ (min fr 65536)) t 0).t (.agg #[.int .i64 rk, .int .i64 ri, .string rn, .slice rAL rnl rcl, .slice rAK rnk rck])) from by
      rintro e w8 ⟨hk8, hw8, rk, ri, rn, rAL, rnl, rcl, rAK, rnk, rck, rfl, ht8⟩
      rw [er_zero] at hw8
      have hsz8 := hk8.size
      have hba : Below w8.heap.size w8 (w8.alloc (.cells #[.int .i64 rk, .int .i64 ri, .string rn, .slice rAL rnl rcl, .slice rAK rnk rck] 25)) := (Below.refl _ _).alloc (Nat.le_refl _) _
      have hb8 : Below w.heap.size w w8 := hb3.trans ⟨hk8.os, hk8.tape, hk8.output, by omega, fun q hq => hk8.block q (by omega) (by show q ≠ _; omega)⟩
      refine ⟨rk, ri, rn, rAL, rnl, rcl, rAK, rnk, rck, rfl, by omega, Lib.hid (fun _ => rfl), Lib.hid ⟨hb8.trans (hba.mono (by omega)), hw8.next hba, (hb5.kp hk8 (by omega)).next hba, B5.new w8 _ _ _ _ _, TmP.mono (fun q h _ => h.1) _ _ (TmP.keep (S := fun q => q ≠ w.heap.size + 1 ∧ q < w8.heap.size) (fun p hp => hba.cell hp.2) _ _ (TmP.mono (fun q h hl => ⟨by omega, hl⟩) _ _ ht8))⟩⟩)
    have HW3 := Lib.hid hW3
    clear hcall hwk hb5 hb3 hs3 hW3 hm
    have HRX := Lib.hid (show ∀ e w8, RsP (w.heap.size + 1 + 1) B 0 0 (cpT (rfR by_ (min fr 65536)) t 0) W3 e w8 → RsP (w.heap.size + 1 + 1) B 0 0 (cpT (rfR by_ (min fr 65536)) t 0) W3 e w8 from fun _ _ h => h)
    clear HRX
    generalize hx : cpT (rfR by_ (min fr 65536)) t 0 = x at HC HAF ⊢
    have HXX := Lib.hid hx
    clear hx
    have HT := Lib.hid (show ∀ (w9 : World) (r : Tm) (rk ri : Int) (rn : ByteArray) (rAL : Option Addr) (rnl rcl : Nat) (rAK : Option Addr) (rnk rck : Nat) (err : Int), Below w.heap.size w w9 → B5 (w.heap.size + 1) (.int .i64 0) (.int .i64 0) (.string ⟨#[]⟩) (.slice none 0 0) (.slice none 0 0) w9 → TmP w9 (fun q => q ≠ w.heap.size + 1) r (.agg #[.int .i64 rk, .int .i64 ri, .string rn, .slice rAL rnl rcl, .slice rAK rnk rck]) → B5 (w.heap.size + 1) (.int .i64 rk) (.int .i64 ri) (.string rn) (.slice rAL rnl rcl) (.slice rAK rnk rck) (set5 w9 (w.heap.size + 1) 0 (.int .i64 rk) (.int .i64 ri) (.string rn) (.slice rAL rnl rcl) (.slice rAK rnk rck)) ∧ GivesT err r w (.returned (.tuple #[.agg #[.int .i64 rk, .int .i64 ri, .string rn, .slice rAL rnl rcl, .slice rAK rnk rck], .int .i64 err])) (set5 w9 (w.heap.size + 1) 0 (.int .i64 rk) (.int .i64 ri) (.string rn) (.slice rAL rnl rcl) (.slice rAK rnk rck)) from
      fun w9 r rk ri rn rAL rnl rcl rAK rnk rck err hb b5 ht => ⟨b5.put _ _ _ _ _, below_set5 hb (by omega) 0 _ _ _ _ _, _, _, _, _, _, _, _, _, _, rfl, (TmP.keep (fun p hp => set5_far (b := w.heap.size + 1) (o := 0) hp) _ _ ht).tmV⟩)
    have HLE := Lib.hid (show ∀ w' , Below w'.heap.size w' w'.drew from fun w' => (Below.refl _ _).drew)
    by_cases hm : fr ≤ 65536
    case' pos =>
      have eM : min fr 65536 = fr := Int.min_eq_left (by omega)
    case' neg =>
      have eM : min fr 65536 = 65536 := Int.min_eq_right (by omega)
    all_goals
      rw [eM] at HC
      clear eM HXX
      go_enter Tryd.func13, Tryd.ntmps13
      go_wp2_with fail
      all_goals first | (exfalso; omega) | skip
      all_goals
        rw [← HW3.out]
        refine (show Calls Tryd.prog 31 _ _ _ from HC.out).mono ?_
        intro e w8 h8
        obtain ⟨rk, ri, rn, rAL, rnl, rcl, rAK, rnk, rck, rfl, hlt, _, HH⟩ := HAF.out e w8 h8
        clear h8 HAF HC HW3
        go_upto_region 5 with fail
        generalize hnb : w8.heap.size = nb at *
        generalize w8.alloc (.cells #[.int .i64 rk, .int .i64 ri, .string rn, .slice rAL rnl rcl, .slice rAK rnk rck] 25) = w9 at HH ⊢
        clear hnb
        by_cases he : x.e = 0
        · have hbb : (x.e == 0) = true := by simpa using he
          have HE := Lib.hid he
          have h5 := HT.out w9 x.t rk ri rn rAL rnl rcl rAK rnk rck 0 HH.out.1 HH.out.2.2.1 HH.out.2.2.2.2
          unfold set5 at h5
          simp only [Nat.zero_add] at h5
          have H5 := Lib.hid h5
          obtain ⟨c0, c1, _, _⟩ := HH.out.2.1
          obtain ⟨y0, y1, y2, y3, y4, _, _, _, _, _⟩ := HH.out.2.2.2.1
          obtain ⟨z0, z1, z2, z3, z4, g0, g1, g2, g3, g4⟩ := HH.out.2.2.1
          clear h5 he
          go_wp2_with fail
          all_goals
            generalize (((((w9.setCell ⟨w.heap.size + 1, 0, none⟩ (.int .i64 rk)).setCell ⟨w.heap.size + 1, 1, none⟩ (.int .i64 ri)).setCell ⟨w.heap.size + 1, 2, none⟩ (.string rn)).setCell ⟨w.heap.size + 1, 3, none⟩ (.slice rAL rnl rcl)).setCell ⟨w.heap.size + 1, 4, none⟩ (.slice rAK rnk rck)) = w3 at H5 ⊢
            clear z0 z1 z2 z3 z4 g0 g1 g2 g3 g4
            obtain ⟨z0, z1, z2, z3, z4, g0, g1, g2, g3, g4⟩ := H5.out.1
            exact bodyPost_ret (v := .tuple #[.agg #[.int .i64 rk, .int .i64 ri, .string rn, .slice rAL rnl rcl, .slice rAK rnk rck], .int .i64 0]) (by simp [results, Tryd.results13, go_sem, z0, z1, z2, z3, z4]) rfl (by first | exact H5.out.2 | (rw [if_pos HE.out, HE.out]; exact H5.out.2))
        · have hbb : (x.e == 0) = false := by simpa using he
          have HE := Lib.hid he
          obtain ⟨wd, hwd⟩ : ∃ z, z = w9.drew := ⟨_, rfl⟩
          have hbd : Below w9.heap.size w9 wd := by rw [hwd]; exact HLE.out w9
          have h5 := HT.out wd nilT 0 0 ⟨#[]⟩ none 0 0 none 0 0 x.e (HH.out.1.trans (hbd.mono HH.out.1.size)) (HH.out.2.2.1.next hbd) (tmP_vr' _ _ _ _ _ _ _)
          have hwkd := HH.out.2.1.next hbd
          have hwk := hwkd.kp (w' := set5 wd (w.heap.size + 1) 0 (.int .i64 0) (.int .i64 0) (.string ⟨#[]⟩) (.slice none 0 0) (.slice none 0 0)) (set5_heap (by omega))
          unfold set5 at h5 hwk
          simp only [Nat.zero_add] at h5 hwk
          generalize x.e = xe at *
          have H5 := Lib.hid h5
          have HSD := Lib.hid (show w9.drew.cell? ⟨w.heap.size + 1 + 1, 0, none⟩ = some (.int .i64 xe) from by rw [← hwd]; exact hwkd.c0)
          have HSX := Lib.hid hwk.c0
          have HWD := Lib.hid hwd
          obtain ⟨c0, c1, _, _⟩ := HH.out.2.1
          obtain ⟨z0, z1, z2, z3, z4, g0, g1, g2, g3, g4⟩ := HH.out.2.2.1.next hbd
          clear h5 he hwk hwd hbd hwkd
          go_upto_region 6 with fail
          all_goals
            refine wp_region_held_drew (S := fun w' => w'.cell? ⟨w.heap.size + 1 + 1, 0, none⟩ = some (.int .i64 xe)) (by kernel_rfl) (HSD.out) ?_
            intro hS
            rw [← HWD.out] at hS ⊢
            refine wpAnyH_take (i := 0) (oi := { dst := some 34, op := Op.build 25 #[], type := 25, pos := "ref.go:62", after := #[], guard := none }) (v := .agg #[.int .i64 0, .int .i64 0, .string ⟨#[]⟩, .slice none 0 0, .slice none 0 0]) rfl (by kernel_rfl) (by kernel_rfl) (by kernel_rfl) (fun _ _ _ h => h) (Or.inl ⟨by rfl, ?_⟩) hS ?_
            · intro w9 hSw
              have s0 := hSw
              go_simp
            simp only [Act.put, List.setIfInBounds_toArray, List.set_cons_zero, List.set_cons_succ]
            refine wpAnyH_take (i := 1) (oi := { dst := some 35, op := Op.move (Operand.tmp 8), type := 61, pos := "ref.go:62", after := #[{ on := 5, ground := Ground.gcOnly Departure.lateStores }], guard := none }) (v := .pointer (some ⟨w.heap.size + 1 + 1, 0, none⟩)) rfl (by kernel_rfl) (by kernel_rfl) (by kernel_rfl) (fun _ _ _ h => h) (Or.inl ⟨by rfl, ?_⟩) hS ?_
            · intro w9 hSw
              have s0 := hSw
              go_simp
            simp only [Act.put, List.setIfInBounds_toArray, List.set_cons_zero, List.set_cons_succ]
            refine wpAnyH_take (i := 2) (oi := { dst := some 36, op := Op.nilCheck (Operand.tmp 35), type := 0, pos := "ref.go:62", after := #[{ on := 1, ground := Ground.data }, { on := 5, ground := Ground.gcOnly Departure.lateStores }], guard := none }) (v := .pointer (some ⟨w.heap.size + 1 + 1, 0, none⟩)) rfl (by kernel_rfl) (by kernel_rfl) (by kernel_rfl) (fun _ _ _ h => h) (Or.inl ⟨by rfl, ?_⟩) hS ?_
            · intro w9 hSw
              have s0 := hSw
              go_simp
            simp only [Act.put, List.setIfInBounds_toArray, List.set_cons_zero, List.set_cons_succ]
            refine wpAnyH_take (i := 3) (oi := { dst := some 37, op := Op.fieldAddr 63 (Operand.tmp 36) 0, type := 0, pos := "ref.go:62", after := #[{ on := 2, ground := Ground.data }, { on := 5, ground := Ground.gcOnly Departure.lateStores }], guard := none }) (v := .pointer (some ⟨w.heap.size + 1 + 1, 0, none⟩)) rfl (by kernel_rfl) (by kernel_rfl) (by kernel_rfl) (fun _ _ _ h => h) (Or.inl ⟨by rfl, ?_⟩) hS ?_
            · intro w9 hSw
              have s0 := hSw
              go_simp
            simp only [Act.put, List.setIfInBounds_toArray, List.set_cons_zero, List.set_cons_succ]
            refine wpAnyH_take (i := 4) (oi := { dst := some 38, op := Op.load 3 (Operand.tmp 37), type := 3, pos := "ref.go:62", after := #[{ on := 3, ground := Ground.data }, { on := 5, ground := Ground.gcOnly Departure.lateStores }], guard := none }) (v := .int .i64 xe) rfl (by kernel_rfl) (by kernel_rfl) (by kernel_rfl) (fun _ _ _ h => h) (Or.inl ⟨by rfl, ?_⟩) hS ?_
            · intro w9 hSw
              have s0 := hSw
              go_simp
            simp only [Act.put, List.setIfInBounds_toArray, List.set_cons_zero, List.set_cons_succ]
            refine wpAnyH_ready (rs := [5]) (by kernel_rfl) (List.cons_ne_nil _ _) ?_
            refine AllReadyH.cons (o := { dst := none, op := Op.store 25 (Operand.tmp 6) (Operand.tmp 34), type := 0, pos := "ref.go:62", after := #[{ on := 0, ground := Ground.data }, { on := 0, ground := Ground.phase }, { on := 1, ground := Ground.textOnly Departure.lateStores }, { on := 2, ground := Ground.textOnly Departure.lateStores }, { on := 3, ground := Ground.textOnly Departure.lateStores }, { on := 4, ground := Ground.textOnly Departure.lateStores }], guard := none }) rfl (fun K hK => ?_) AllReadyH.nil
            go_simp
            refine hK _ _ (HSX.out) ?_
            clear hS
            intro hS
            clear hK K
            refine wpAnyH_take (i := 6) (oi := { dst := some 7, op := Op.assign (Operand.tmp 38), type := 3, pos := "ref.go:62", after := #[{ on := 4, ground := Ground.data }, { on := 5, ground := Ground.chain }, { on := 0, ground := Ground.phase }, { on := 1, ground := Ground.phase }, { on := 2, ground := Ground.phase }, { on := 3, ground := Ground.phase }, { on := 4, ground := Ground.phase }, { on := 5, ground := Ground.phase }], guard := none }) (v := .int .i64 xe) rfl (by kernel_rfl) (by kernel_rfl) (by kernel_rfl) (fun _ _ _ h => h) (Or.inl ⟨by rfl, ?_⟩) hS ?_
            · intro w9 hSw
              have s0 := hSw
              go_simp
            simp only [Act.put, List.setIfInBounds_toArray, List.set_cons_zero, List.set_cons_succ]
            refine wpAnyH_done (by kernel_rfl) ?_ _
            clear hS HSD HSX HWD
            generalize (((((wd.setCell ⟨w.heap.size + 1, 0, none⟩ (.int .i64 0)).setCell ⟨w.heap.size + 1, 1, none⟩ (.int .i64 0)).setCell ⟨w.heap.size + 1, 2, none⟩ (.string ⟨#[]⟩)).setCell ⟨w.heap.size + 1, 3, none⟩ (.slice none 0 0)).setCell ⟨w.heap.size + 1, 4, none⟩ (.slice none 0 0)) = w12 at H5 ⊢
            clear z0 z1 z2 z3 z4 g0 g1 g2 g3 g4 c0 c1
            obtain ⟨z0, z1, z2, z3, z4, g0, g1, g2, g3, g4⟩ := H5.out.1
            go_wp2_with fail
            exact bodyPost_ret (v := .tuple #[.agg #[.int .i64 0, .int .i64 0, .string ⟨#[]⟩, .slice none 0 0, .slice none 0 0], .int .i64 xe]) (by simp [results, Tryd.results13, go_sem, z0, z1, z2, z3, z4]) rfl (by first | exact H5.out.2 | (rw [if_neg HE.out]; exact H5.out.2))
end Go.Proofs.YtobaeeobfcffoaaDoor
