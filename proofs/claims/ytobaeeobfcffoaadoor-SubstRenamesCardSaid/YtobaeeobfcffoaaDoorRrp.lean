/- Rename of the reference. -/
import Derived.Test.YtobaeeobfcffoaaDoorRrn
namespace Go.Proofs.YtobaeeobfcffoaaDoor
open Go.RowKit

set_option maxRecDepth 100000 in
set_option maxHeartbeats 16000000 in
theorem rrenameT_any (t : Tm) (vt : Value) (tos : List Int) (AT : Option Addr) (ct : Nat) (B : Nat) (w : World) (hv : TmV w B t vt) (hia : IA w B AT tos) (hB : B ≤ w.heap.size) (hsz : szT t ≤ 4096) (hq : AllT Qv t 0) :
    Calls Tryd.prog 20 #[vt, .slice AT tos.length ct] w (GivesT (rnE tos t) (rnO tos t) w) := by
  obtain ⟨k, i, nm, AL, nl, cl, AK, nk, ck, rfl, _⟩ := TmP.open_ (TmP.of t vt hv)
  obtain ⟨W3, hW3⟩ : ∃ W3, W3 = (((w.alloc (.cells #[.int .i64 k, .int .i64 i, .string nm, .slice AL nl cl, .slice AK nk ck] 25)).alloc (.cells #[.int .i64 0, .int .i64 0, .string ⟨#[]⟩, .slice none 0 0, .slice none 0 0] 25)).alloc (.cells #[.int .i64 0, .int .i64 0] 63)) := ⟨_, rfl⟩
  have hs3 : W3.heap.size = w.heap.size + 1 + 1 + 1 := by rw [hW3]; simp
  have hb3 : Below w.heap.size w W3 := by rw [hW3]; exact (((Below.refl _ _).alloc (Nat.le_refl _) _).alloc (by simp) _).alloc (by simp; omega) _
  have hT : B5 w.heap.size (.int .i64 k) (.int .i64 i) (.string nm) (.slice AL nl cl) (.slice AK nk ck) W3 := by rw [hW3]; exact ((B5.new w (.int .i64 k) (.int .i64 i) (.string nm) (.slice AL nl cl) (.slice AK nk ck)).next (alB _ _)).next (alB _ _)
  have hb5 : B5 (w.heap.size + 1) (.int .i64 0) (.int .i64 0) (.string ⟨#[]⟩) (.slice none 0 0) (.slice none 0 0) W3 := by
    have h := (B5.new (w.alloc (.cells #[.int .i64 k, .int .i64 i, .string nm, .slice AL nl cl, .slice AK nk ck] 25)) (.int .i64 0) (.int .i64 0) (.string ⟨#[]⟩) (.slice none 0 0) (.slice none 0 0)).next (alB _ (.cells #[.int .i64 0, .int .i64 0] 63))
    simp only [World.size_alloc] at h
    rw [hW3]; exact h
  have hwk : WkS (w.heap.size + 1 + 1) 0 0 W3 := by
    have hn := World.alloc_heap_new ((w.alloc (.cells #[.int .i64 k, .int .i64 i, .string nm, .slice AL nl cl, .slice AK nk ck] 25)).alloc (.cells #[.int .i64 0, .int .i64 0, .string ⟨#[]⟩, .slice none 0 0, .slice none 0 0] 25)) (.cells #[.int .i64 0, .int .i64 0] 63)
    simp only [World.size_alloc] at hn
    rw [← hW3] at hn
    have hf : ∀ j, W3.frozen? ⟨w.heap.size + 1 + 1, j, none⟩ = false := fun j => by simp [World.frozen?, hn]
    exact ⟨cell_of_row _ _ 0 _ _ _ hn, cell_of_row _ _ 1 _ _ _ hn, hf 0, hf 1⟩
  have hia3 := hia.next (hb3.mono hB)
  have hip : IP W3 B (w.heap.size + 1 + 1) AT tos := fun j p hj => by
    obtain ⟨ab, ao, e, hab, hc⟩ := hia3.2 (by have := (List.getElem?_eq_some_iff.1 hj).1; omega)
    exact ⟨ab, ao, e, ⟨hab, by omega⟩, hc j p hj⟩
  have hcall := rrename_any tos AT ct 4096 t (.agg #[.int .i64 k, .int .i64 i, .string nm, .slice AL nl cl, .slice AK nk ck]) 0 B (w.heap.size + 1 + 1) 0 0 W3 hsz (by omega) hq (TmP.mono (fun q h _ => ⟨h, by omega⟩) _ _ (TmP.of _ _ (hv.below hb3 hB))) hip (by omega) hwk
  have HC := Lib.hid hcall
  have HW3 := Lib.hid hW3
  obtain ⟨X, hX⟩ : ∃ z, z = cpT (rnR tos) t 0 := ⟨_, rfl⟩
  have HE0 := Lib.hid (show rnE tos t = X.e by rw [hX]; rfl)
  have HO0 := Lib.hid (show rnO tos t = if rnE tos t = 0 then X.t else nilT by rw [hX]; rfl)
  have HAF := Lib.hid (show ∀ e w8, RsP (w.heap.size + 1 + 1) B 0 0 X W3 e w8 → ∃ rk ri rn rAL rnl rcl rAK rnk rck, e = .returned (.agg #[.int .i64 rk, .int .i64 ri, .string rn, .slice rAL rnl rcl, .slice rAK rnk rck]) ∧ Hid (Below w.heap.size w (w8.alloc (.cells #[.int .i64 rk, .int .i64 ri, .string rn, .slice rAL rnl rcl, .slice rAK rnk rck] 25)) ∧ WkS (w.heap.size + 1 + 1) X.e 0 (w8.alloc (.cells #[.int .i64 rk, .int .i64 ri, .string rn, .slice rAL rnl rcl, .slice rAK rnk rck] 25)) ∧ B5 (w.heap.size + 1) (.int .i64 0) (.int .i64 0) (.string ⟨#[]⟩) (.slice none 0 0) (.slice none 0 0) (w8.alloc (.cells #[.int .i64 rk, .int .i64 ri, .string rn, .slice rAL rnl rcl, .slice rAK rnk rck] 25)) ∧ B5 w8.heap.size (.int .i64 rk) (.int .i64 ri) (.string rn) (.slice rAL rnl rcl) (.slice rAK rnk rck) (w8.alloc (.cells #[.int .i64 rk, .int .i64 ri, .string rn, .slice rAL rnl rcl, .slice rAK rnk rck] 25)) ∧ TmP (w8.alloc (.cells #[.int .i64 rk, .int .i64 ri, .string rn, .slice rAL rnl rcl, .slice rAK rnk rck] 25)) (fun q => q ≠ w.heap.size + 1) X.t (.agg #[.int .i64 rk, .int .i64 ri, .string rn, .slice rAL rnl rcl, .slice rAK rnk rck]) ∧ w.heap.size + 1 < w8.heap.size) from by
    rintro e w8 ⟨hk8, hw8, rk, ri, rn, rAL, rnl, rcl, rAK, rnk, rck, rfl, ht8⟩
    rw [er_zero] at hw8
    have hsz8 := hk8.size
    have hba := alB w8 (.cells #[.int .i64 rk, .int .i64 ri, .string rn, .slice rAL rnl rcl, .slice rAK rnk rck] 25)
    have hb8 : Below w.heap.size w w8 := hb3.trans ⟨hk8.os, hk8.tape, hk8.output, by omega, fun q hq => hk8.block q (by omega) (by show q ≠ _; omega)⟩
    exact ⟨rk, ri, rn, rAL, rnl, rcl, rAK, rnk, rck, rfl, Lib.hid ⟨hb8.trans (hba.mono (by omega)), hw8.next hba, (hb5.kp hk8 (by omega)).next hba, B5.new w8 _ _ _ _ _, TmP.mono (fun _ h _ => h.1) _ _ (TmP.keep (S := fun q => q ≠ w.heap.size + 1 ∧ q < w8.heap.size) (fun _ hp => hba.cell hp.2) _ _ (TmP.mono (fun q h hl => ⟨by omega, hl⟩) _ _ ht8)), by omega⟩⟩)
  have HTP := Lib.hid hT
  have HTT := Lib.hid (show ∀ (w9 : World) (r : Tm) (rk ri : Int) (rn : ByteArray) (rAL : Option Addr) (rnl rcl : Nat) (rAK : Option Addr) (rnk rck : Nat) (err : Int), Below w.heap.size w w9 → B5 (w.heap.size + 1) (.int .i64 0) (.int .i64 0) (.string ⟨#[]⟩) (.slice none 0 0) (.slice none 0 0) w9 → TmP w9 (fun q => q ≠ w.heap.size + 1) r (.agg #[.int .i64 rk, .int .i64 ri, .string rn, .slice rAL rnl rcl, .slice rAK rnk rck]) → B5 (w.heap.size + 1) (.int .i64 rk) (.int .i64 ri) (.string rn) (.slice rAL rnl rcl) (.slice rAK rnk rck) (set5 w9 (w.heap.size + 1) 0 (.int .i64 rk) (.int .i64 ri) (.string rn) (.slice rAL rnl rcl) (.slice rAK rnk rck)) ∧ GivesT err r w (.returned (.tuple #[.agg #[.int .i64 rk, .int .i64 ri, .string rn, .slice rAL rnl rcl, .slice rAK rnk rck], .int .i64 err])) (set5 w9 (w.heap.size + 1) 0 (.int .i64 rk) (.int .i64 ri) (.string rn) (.slice rAL rnl rcl) (.slice rAK rnk rck)) from
    fun w9 r rk ri rn rAL rnl rcl rAK rnk rck err hb b5 ht => ⟨b5.put _ _ _ _ _, below_set5 hb (by omega) 0 _ _ _ _ _, _, _, _, _, _, _, _, _, _, rfl, (TmP.keep (fun _ hp => set5_far (b := w.heap.size + 1) (o := 0) hp) _ _ ht).tmV⟩)
  have HLE := Lib.hid (show ∀ w' , Below w'.heap.size w' w'.drew from fun w' => (Below.refl _ _).drew)
  rw [← hX] at HC
  clear hcall hwk hb5 hb3 hs3 hW3 hX hv hq hT hia hia3 hip
  generalize rnO tos t = RO at *
  generalize rnE tos t = RE at *
  go_enter Tryd.func20, Tryd.ntmps20
  go_upto_region 2 with fail
  rw [← HW3.out]
  obtain ⟨x0, x1, x2, x3, x4, _, _, _, _, _⟩ := HTP.out
  go_wp2_with fail
  refine (show Calls Tryd.prog 42 _ _ _ from HC.out).mono ?_
  intro e w8 h8
  obtain ⟨rk, ri, rn, rAL, rnl, rcl, rAK, rnk, rck, rfl, HH⟩ := HAF.out e w8 h8
  clear h8 HAF HC HW3 HTP x0 x1 x2 x3 x4
  go_upto_region 3 with fail
  have hnlt := HH.out.2.2.2.2.2
  generalize hnb : w8.heap.size = nb at *
  generalize w8.alloc (.cells #[.int .i64 rk, .int .i64 ri, .string rn, .slice rAL rnl rcl, .slice rAK rnk rck] 25) = w9 at HH ⊢
  clear hnb
  obtain ⟨c0, c1, _, _⟩ := HH.out.2.1
  by_cases he : X.e = 0
  · have hbb : (X.e == 0) = true := by simpa using he
    have HRE := Lib.hid (show RE = 0 from HE0.out.trans he)
    have HRO := Lib.hid (show RO = X.t by rw [HO0.out, HRE.out]; rfl)
    have h5 := HTT.out w9 X.t rk ri rn rAL rnl rcl rAK rnk rck 0 HH.out.1 HH.out.2.2.1 HH.out.2.2.2.2.1
    unfold set5 at h5
    simp only [Nat.zero_add] at h5
    have H5 := Lib.hid h5
    obtain ⟨y0, y1, y2, y3, y4, _, _, _, _, _⟩ := HH.out.2.2.2.1
    obtain ⟨z0, z1, z2, z3, z4, g0, g1, g2, g3, g4⟩ := HH.out.2.2.1
    clear h5 he
    go_wp2_with fail
    generalize (((((w9.setCell ⟨w.heap.size + 1, 0, none⟩ (.int .i64 rk)).setCell ⟨w.heap.size + 1, 1, none⟩ (.int .i64 ri)).setCell ⟨w.heap.size + 1, 2, none⟩ (.string rn)).setCell ⟨w.heap.size + 1, 3, none⟩ (.slice rAL rnl rcl)).setCell ⟨w.heap.size + 1, 4, none⟩ (.slice rAK rnk rck)) = w12 at H5 ⊢
    clear z0 z1 z2 z3 z4 g0 g1 g2 g3 g4 y0 y1 y2 y3 y4
    obtain ⟨z0, z1, z2, z3, z4, g0, g1, g2, g3, g4⟩ := H5.out.1
    exact bodyPost_ret (v := .tuple #[.agg #[.int .i64 rk, .int .i64 ri, .string rn, .slice rAL rnl rcl, .slice rAK rnk rck], .int .i64 0]) (by simp [results, Tryd.results20, go_sem, z0, z1, z2, z3, z4]) rfl (by rw [HRE.out, HRO.out]; exact H5.out.2)
  · have hbb : (X.e == 0) = false := by simpa using he
    have HRE := Lib.hid (show RE = X.e from HE0.out)
    have HRO := Lib.hid (show RO = nilT by rw [HO0.out, HRE.out, if_neg he])
    obtain ⟨wd, hwd⟩ : ∃ z, z = w9.drew := ⟨_, rfl⟩
    have hbd : Below w9.heap.size w9 wd := by rw [hwd]; exact HLE.out w9
    have h5 := HTT.out wd nilT 0 0 ⟨#[]⟩ none 0 0 none 0 0 X.e (HH.out.1.trans (hbd.mono HH.out.1.size)) (HH.out.2.2.1.next hbd) (tmP_vr' _ _ _ _ _ _ _)
    have hwkd := HH.out.2.1.next hbd
    have hwk := hwkd.kp (w' := set5 wd (w.heap.size + 1) 0 (.int .i64 0) (.int .i64 0) (.string ⟨#[]⟩) (.slice none 0 0) (.slice none 0 0)) (set5_heap (by omega))
    unfold set5 at h5 hwk
    simp only [Nat.zero_add] at h5 hwk
    generalize X.e = xe at *
    have H5 := Lib.hid h5
    have HSD := Lib.hid (show w9.drew.cell? ⟨w.heap.size + 1 + 1, 0, none⟩ = some (.int .i64 xe) from by rw [← hwd]; exact hwkd.c0)
    have HSX := Lib.hid hwk.c0
    have HWD := Lib.hid hwd
    obtain ⟨z0, z1, z2, z3, z4, g0, g1, g2, g3, g4⟩ := HH.out.2.2.1.next hbd
    clear h5 he hwk hwd hbd hwkd
    go_upto_region 4 with fail
    refine wp_region_held_drew (S := fun w' => w'.cell? ⟨w.heap.size + 1 + 1, 0, none⟩ = some (.int .i64 xe)) (by kernel_rfl) (HSD.out) ?_
    intro hS
    rw [← HWD.out] at hS ⊢
    refine wpAnyH_take (i := 0) (oi := { dst := some 19, op := Op.build 25 #[], type := 25, pos := "ref.go:140", after := #[], guard := none }) (v := .agg #[.int .i64 0, .int .i64 0, .string ⟨#[]⟩, .slice none 0 0, .slice none 0 0]) rfl (by kernel_rfl) (by kernel_rfl) (by kernel_rfl) (fun _ _ _ h => h) (Or.inl ⟨by rfl, ?_⟩) hS ?_
    · intro w9 hSw
      have s0 := hSw
      go_simp
    simp only [Act.put, List.setIfInBounds_toArray, List.set_cons_zero, List.set_cons_succ]
    refine wpAnyH_take (i := 1) (oi := { dst := some 20, op := Op.move (Operand.tmp 6), type := 61, pos := "ref.go:140", after := #[{ on := 5, ground := Ground.gcOnly Departure.lateStores }], guard := none }) (v := .pointer (some ⟨w.heap.size + 1 + 1, 0, none⟩)) rfl (by kernel_rfl) (by kernel_rfl) (by kernel_rfl) (fun _ _ _ h => h) (Or.inl ⟨by rfl, ?_⟩) hS ?_
    · intro w9 hSw
      have s0 := hSw
      go_simp
    simp only [Act.put, List.setIfInBounds_toArray, List.set_cons_zero, List.set_cons_succ]
    refine wpAnyH_take (i := 2) (oi := { dst := some 21, op := Op.nilCheck (Operand.tmp 20), type := 0, pos := "ref.go:140", after := #[{ on := 1, ground := Ground.data }, { on := 5, ground := Ground.gcOnly Departure.lateStores }], guard := none }) (v := .pointer (some ⟨w.heap.size + 1 + 1, 0, none⟩)) rfl (by kernel_rfl) (by kernel_rfl) (by kernel_rfl) (fun _ _ _ h => h) (Or.inl ⟨by rfl, ?_⟩) hS ?_
    · intro w9 hSw
      have s0 := hSw
      go_simp
    simp only [Act.put, List.setIfInBounds_toArray, List.set_cons_zero, List.set_cons_succ]
    refine wpAnyH_take (i := 3) (oi := { dst := some 22, op := Op.fieldAddr 63 (Operand.tmp 21) 0, type := 0, pos := "ref.go:140", after := #[{ on := 2, ground := Ground.data }, { on := 5, ground := Ground.gcOnly Departure.lateStores }], guard := none }) (v := .pointer (some ⟨w.heap.size + 1 + 1, 0, none⟩)) rfl (by kernel_rfl) (by kernel_rfl) (by kernel_rfl) (fun _ _ _ h => h) (Or.inl ⟨by rfl, ?_⟩) hS ?_
    · intro w9 hSw
      have s0 := hSw
      go_simp
    simp only [Act.put, List.setIfInBounds_toArray, List.set_cons_zero, List.set_cons_succ]
    refine wpAnyH_take (i := 4) (oi := { dst := some 23, op := Op.load 3 (Operand.tmp 22), type := 3, pos := "ref.go:140", after := #[{ on := 3, ground := Ground.data }, { on := 5, ground := Ground.gcOnly Departure.lateStores }], guard := none }) (v := .int .i64 xe) rfl (by kernel_rfl) (by kernel_rfl) (by kernel_rfl) (fun _ _ _ h => h) (Or.inl ⟨by rfl, ?_⟩) hS ?_
    · intro w9 hSw
      have s0 := hSw
      go_simp
    simp only [Act.put, List.setIfInBounds_toArray, List.set_cons_zero, List.set_cons_succ]
    refine wpAnyH_ready (rs := [5]) (by kernel_rfl) (List.cons_ne_nil _ _) ?_
    refine AllReadyH.cons (o := { dst := none, op := Op.store 25 (Operand.tmp 4) (Operand.tmp 19), type := 0, pos := "ref.go:140", after := #[{ on := 0, ground := Ground.data }, { on := 0, ground := Ground.phase }, { on := 1, ground := Ground.textOnly Departure.lateStores }, { on := 2, ground := Ground.textOnly Departure.lateStores }, { on := 3, ground := Ground.textOnly Departure.lateStores }, { on := 4, ground := Ground.textOnly Departure.lateStores }], guard := none }) rfl (fun K hK => ?_) AllReadyH.nil
    go_simp
    refine hK _ _ (HSX.out) ?_
    clear hS
    intro hS
    clear hK K
    refine wpAnyH_take (i := 6) (oi := { dst := some 5, op := Op.assign (Operand.tmp 23), type := 3, pos := "ref.go:140", after := #[{ on := 4, ground := Ground.data }, { on := 5, ground := Ground.chain }, { on := 0, ground := Ground.phase }, { on := 1, ground := Ground.phase }, { on := 2, ground := Ground.phase }, { on := 3, ground := Ground.phase }, { on := 4, ground := Ground.phase }, { on := 5, ground := Ground.phase }], guard := none }) (v := .int .i64 xe) rfl (by kernel_rfl) (by kernel_rfl) (by kernel_rfl) (fun _ _ _ h => h) (Or.inl ⟨by rfl, ?_⟩) hS ?_
    · intro w9 hSw
      have s0 := hSw
      go_simp
    simp only [Act.put, List.setIfInBounds_toArray, List.set_cons_zero, List.set_cons_succ]
    refine wpAnyH_done (by kernel_rfl) ?_ _
    clear hS HSD HSX HWD
    generalize (((((wd.setCell ⟨w.heap.size + 1, 0, none⟩ (.int .i64 0)).setCell ⟨w.heap.size + 1, 1, none⟩ (.int .i64 0)).setCell ⟨w.heap.size + 1, 2, none⟩ (.string ⟨#[]⟩)).setCell ⟨w.heap.size + 1, 3, none⟩ (.slice none 0 0)).setCell ⟨w.heap.size + 1, 4, none⟩ (.slice none 0 0)) = w12 at H5 ⊢
    clear z0 z1 z2 z3 z4 g0 g1 g2 g3 g4 c0 c1
    obtain ⟨z0, z1, z2, z3, z4, g0, g1, g2, g3, g4⟩ := H5.out.1
    go_wp2_with fail
    exact bodyPost_ret (v := .tuple #[.agg #[.int .i64 0, .int .i64 0, .string ⟨#[]⟩, .slice none 0 0, .slice none 0 0], .int .i64 xe]) (by simp [results, Tryd.results20, go_sem, z0, z1, z2, z3, z4]) rfl (by rw [HRE.out, HRO.out]; exact H5.out.2)
end Go.Proofs.YtobaeeobfcffoaaDoor
