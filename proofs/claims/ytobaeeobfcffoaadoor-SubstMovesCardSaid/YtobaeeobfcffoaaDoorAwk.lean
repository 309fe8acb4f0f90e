/- awake of the subst laws: the chapter's examples. -/
import Derived.Test.YtobaeeobfcffoaaDoorAbp
import Derived.Test.YtobaeeobfcffoaaDoorRsm
import Derived.Deep.DeepCutAuto
namespace Go.Proofs.YtobaeeobfcffoaaDoor
open Go.RowKit
def fT (i j : Int) : Tm := .mk 5 0 ⟨#[]⟩ [] [.mk 3 0 ⟨#[78, 97, 116]⟩ [] [], .mk 4 0 ⟨#[]⟩ [] [vr i, vr j]]
def pT (i j : Int) : Tm := .mk 4 0 ⟨#[]⟩ [] [vr i, .mk 5 0 ⟨#[]⟩ [] [.mk 3 0 ⟨#[78, 97, 116]⟩ [] [], vr j]]
theorem aw_e1 : shE 2 0 (fT 0 1) = 0 := by kernel_rfl
theorem aw_o1 : shO 2 0 (fT 0 1) = fT 0 3 := by kernel_rfl
theorem aw_e2 : shE 2 1 (fT 0 1) = 0 := by kernel_rfl
theorem aw_o2 : shO 2 1 (fT 0 1) = fT 0 1 := by kernel_rfl
theorem aw_e3 : shE (-1) 0 (fT 0 1) = 24 := by kernel_rfl
theorem aw_o3 : shO (-1) 0 (fT 0 1) = nilT := by kernel_rfl
theorem aw_e4 : unE [vr 4] 0 (fT 1 2) = 0 := by kernel_rfl
theorem aw_o4 : unO [vr 4] 0 (fT 1 2) = fT 5 1 := by kernel_rfl
theorem aw_e5 : errO (cpT (absP (vr 3)) (pT 3 4) 0) = 0 := by kernel_rfl
theorem aw_o5 : resO (cpT (absP (vr 3)) (pT 3 4) 0) = pT 0 1 := by kernel_rfl
theorem aw_n5 : abN (vr 3) (pT 3 4) = 2 := by kernel_rfl
theorem aw_s1 : sameT (fT 0 3) (fT 0 3) = true := by kernel_rfl
theorem aw_s2 : sameT (fT 0 1) (fT 0 1) = true := by kernel_rfl
theorem aw_s4 : sameT (fT 5 1) (fT 5 1) = true := by kernel_rfl
theorem aw_s5 : sameT (pT 0 1) (pT 0 1) = true := by kernel_rfl
theorem fT_sz (i j : Int) : szT (fT i j) = 5 := by simp [fT, vr, szT, szL]
theorem pT_sz (i j : Int) : szT (pT i j) = 5 := by simp [pT, vr, szT, szL]
theorem qv_vr (i : Int) (d : Nat) (h : 0 ≤ i ∧ i ≤ 1000000000) : AllT Qv (vr i) d := by
  unfold vr
  rw [AllT, AllL]
  exact ⟨fun _ => h, trivial⟩
theorem fT_qv (i j : Int) (h : 0 ≤ i ∧ i ≤ 1000000000) (h' : 0 ≤ j ∧ j ≤ 1000000000) : AllT Qv (fT i j) 0 := by
  unfold fT
  rw [AllT, AllL, AllL, AllL, AllT, AllL, AllT, AllL, AllL, AllL]
  exact ⟨fun e => absurd e (by decide), ⟨fun e => absurd e (by decide), trivial⟩, ⟨fun e => absurd e (by decide), qv_vr _ _ h, qv_vr _ _ h', trivial⟩, trivial⟩
theorem pT_qv (i j : Int) (h : 0 ≤ i ∧ i ≤ 1000000000) (h' : 0 ≤ j ∧ j ≤ 1000000000) : AllT Qv (pT i j) 0 := by
  unfold pT
  rw [AllT, AllL, AllL, AllL, AllT, AllL, AllL, AllL, AllT, AllL]
  exact ⟨fun e => absurd e (by decide), qv_vr _ _ h, ⟨fun e => absurd e (by decide), ⟨fun e => absurd e (by decide), trivial⟩, qv_vr _ _ h', trivial⟩, trivial⟩
/-- Terms in memory. -/
theorem vr_tv (w : World) (B : Nat) (i : Int) : TmV w B (vr i) (.agg #[.int .i64 0, .int .i64 i, .string ⟨#[]⟩, .slice none 0 0, .slice none 0 0]) := by
  unfold vr
  rw [TmV]
  exact ⟨none, 0, none, 0, rfl, ⟨by simp, fun h => by simp at h⟩, by simp, fun h => by simp at h⟩
theorem co_tv (w : World) (B : Nat) (nm : ByteArray) : TmV w B (.mk 3 0 nm [] []) (.agg #[.int .i64 3, .int .i64 0, .string nm, .slice none 0 0, .slice none 0 0]) := by
  rw [TmV]
  exact ⟨none, 0, none, 0, rfl, ⟨by simp, fun h => by simp at h⟩, by simp, fun h => by simp at h⟩
theorem two_tv {w : World} {B g : Nat} {k : Int} {nm : ByteArray} {ta tb : Tm} {a0 a1 a2 a3 a4 b0 b1 b2 b3 b4 : Value} (hg : w.heap[g]? = some (.cells #[a0, a1, a2, a3, a4, b0, b1, b2, b3, b4] 25 (0, 0))) (hB : g < B) (ha : TmV w B ta (.agg #[a0, a1, a2, a3, a4])) (hb : TmV w B tb (.agg #[b0, b1, b2, b3, b4])) :
    TmV w B (.mk k 0 nm [] [ta, tb]) (.agg #[.int .i64 k, .int .i64 0, .string nm, .slice none 0 0, .slice (some ⟨g, 0, none⟩) 2 2]) := by
  have c := fun j u (e : _ = some u) => (cell_of_row _ _ j _ _ _ hg).trans e
  rw [TmV]
  refine ⟨none, 0, some ⟨g, 0, none⟩, 2, rfl, ⟨by simp, fun h => by simp at h⟩, by simp, fun _ => ⟨g, 0, rfl, hB, ?_⟩⟩
  rw [KsV, KsV, KsV]
  exact ⟨⟨_, _, _, _, _, c 0 _ rfl, c 1 _ rfl, c 2 _ rfl, c 3 _ rfl, c 4 _ rfl, ha⟩, ⟨_, _, _, _, _, c 5 _ rfl, c 6 _ rfl, c 7 _ rfl, c 8 _ rfl, c 9 _ rfl, hb⟩, trivial⟩
/-- A box with a term in it. -/
structure TB (b : Nat) (t : Tm) (k i : Int) (nm : ByteArray) (AL : Option Addr) (nl cl : Nat) (AK : Option Addr) (nk ck : Nat) (w : World) : Prop where
  b5 : B5 b (.int .i64 k) (.int .i64 i) (.string nm) (.slice AL nl cl) (.slice AK nk ck) w
  tv : TmV w w.heap.size t (.agg #[.int .i64 k, .int .i64 i, .string nm, .slice AL nl cl, .slice AK nk ck])
theorem B5.row {w : World} {b : Nat} {c0 c1 c2 c3 c4 : Value} (h : w.heap[b]? = some (.cells #[c0, c1, c2, c3, c4] 25 (0, 0))) : B5 b c0 c1 c2 c3 c4 w := by
  have hf : ∀ j, w.frozen? ⟨b, j, none⟩ = false := fun j => by simp [World.frozen?, h]
  exact ⟨cell_of_row _ _ 0 _ _ _ h, cell_of_row _ _ 1 _ _ _ h, cell_of_row _ _ 2 _ _ _ h, cell_of_row _ _ 3 _ _ _ h, cell_of_row _ _ 4 _ _ _ h, hf 0, hf 1, hf 2, hf 3, hf 4⟩
theorem tv_next {w w' : World} {t : Tm} {v : Value} (h : TmV w w.heap.size t v) (hb : Below w.heap.size w w') : TmV w' w'.heap.size t v := (TmP.keep (S := fun q => q < w.heap.size) (fun _ hp => hb.cell hp) _ _ (TmP.of _ _ h)).tmV
theorem TB.next {b : Nat} {t : Tm} {k i : Int} {nm : ByteArray} {AL : Option Addr} {nl cl : Nat} {AK : Option Addr} {nk ck : Nat} {w w' : World} (h : TB b t k i nm AL nl cl AK nk ck w) (hb : Below w.heap.size w w') : TB b t k i nm AL nl cl AK nk ck w' := ⟨h.b5.next hb, tv_next h.tv hb⟩
theorem TB.new {t : Tm} {k i : Int} {nm : ByteArray} {AL : Option Addr} {nl cl : Nat} {AK : Option Addr} {nk ck : Nat} {w : World} (h : TmV w w.heap.size t (.agg #[.int .i64 k, .int .i64 i, .string nm, .slice AL nl cl, .slice AK nk ck])) : TB w.heap.size t k i nm AL nl cl AK nk ck (w.alloc (.cells #[.int .i64 k, .int .i64 i, .string nm, .slice AL nl cl, .slice AK nk ck] 25)) := ⟨B5.new w _ _ _ _ _, tv_next h ((Below.refl _ _).alloc (Nat.le_refl _) _)⟩
set_option maxRecDepth 100000 in
theorem awv_any (i : Int) (w : World) : Calls Tryd.prog 27 #[.int .i64 i] w fun e w' => e = .returned (.agg #[.int .i64 0, .int .i64 i, .string ⟨#[]⟩, .slice none 0 0, .slice none 0 0]) ∧ Below w.heap.size w w' := by
  go_enter Tryd.func27, Tryd.ntmps27
  go_wp2_with fail
  exact bodyPost_ret (v := .agg #[.int .i64 0, .int .i64 i, .string ⟨#[]⟩, .slice none 0 0, .slice none 0 0]) (by simp [results, Tryd.results27, go_sem]) rfl ⟨rfl, (Below.refl _ _).alloc (Nat.le_refl _) _⟩
set_option maxRecDepth 100000 in
set_option maxHeartbeats 1000000 in
theorem awf_any (i j : Int) (w : World) : Calls Tryd.prog 28 #[.agg #[.int .i64 0, .int .i64 i, .string ⟨#[]⟩, .slice none 0 0, .slice none 0 0], .agg #[.int .i64 0, .int .i64 j, .string ⟨#[]⟩, .slice none 0 0, .slice none 0 0]] w fun e w' => ∃ g, Below w.heap.size w w' ∧ e = .returned (.agg #[.int .i64 5, .int .i64 0, .string ⟨#[]⟩, .slice none 0 0, .slice (some ⟨g, 0, none⟩) 2 2]) ∧ TmV w' w'.heap.size (fT i j) (.agg #[.int .i64 5, .int .i64 0, .string ⟨#[]⟩, .slice none 0 0, .slice (some ⟨g, 0, none⟩) 2 2]) := by
  go_enter Tryd.func28, Tryd.ntmps28
  go_wp2_with fail
  obtain ⟨W3, hW3⟩ : ∃ W3, W3 = ((w.alloc (.cells #[.int .i64 0, .int .i64 i, .string ⟨#[]⟩, .slice none 0 0, .slice none 0 0] 25)).alloc (.cells #[.int .i64 0, .int .i64 j, .string ⟨#[]⟩, .slice none 0 0, .slice none 0 0] 25)).alloc (.cells #[.int .i64 5, .int .i64 0, .string ⟨#[]⟩, .slice none 0 0, .slice (some ⟨w.heap.size + 1 + 1 + 1 + 1, 0, none⟩) 2 2] 25) := ⟨_, rfl⟩
  have hs3 : W3.heap.size = w.heap.size + 1 + 1 + 1 := by rw [hW3]; simp
  have hb3 : Below w.heap.size w W3 := by rw [hW3]; exact (((Below.refl _ _).alloc (Nat.le_refl _) _).alloc (by simp) _).alloc (by simp; omega) _
  have q0 := World.alloc_heap_new W3 (.cells #[.int .i64 0, .int .i64 i, .string ⟨#[]⟩, .slice none 0 0, .slice none 0 0, .int .i64 0, .int .i64 j, .string ⟨#[]⟩, .slice none 0 0, .slice none 0 0] 25)
  have q1 := World.alloc_heap_new (W3.alloc (.cells #[.int .i64 0, .int .i64 i, .string ⟨#[]⟩, .slice none 0 0, .slice none 0 0, .int .i64 0, .int .i64 j, .string ⟨#[]⟩, .slice none 0 0, .slice none 0 0] 25)) (.cells #[.int .i64 3, .int .i64 0, .string ⟨#[78, 97, 116]⟩, .slice none 0 0, .slice none 0 0, .int .i64 4, .int .i64 0, .string ⟨#[]⟩, .slice none 0 0, .slice (some ⟨w.heap.size + 1 + 1 + 1, 0, none⟩) 2 2] 25)
  rw [World.size_alloc, hs3] at q1
  rw [hs3] at q0
  have q0' := (Below.heap_alloc (W3.alloc (.cells #[.int .i64 0, .int .i64 i, .string ⟨#[]⟩, .slice none 0 0, .slice none 0 0, .int .i64 0, .int .i64 j, .string ⟨#[]⟩, .slice none 0 0, .slice none 0 0] 25)) (.cells #[.int .i64 3, .int .i64 0, .string ⟨#[78, 97, 116]⟩, .slice none 0 0, .slice none 0 0, .int .i64 4, .int .i64 0, .string ⟨#[]⟩, .slice none 0 0, .slice (some ⟨w.heap.size + 1 + 1 + 1, 0, none⟩) 2 2] 25) (w.heap.size + 1 + 1 + 1) (by rw [World.size_alloc]; omega)).trans q0
  have hb5 : Below w.heap.size w ((W3.alloc (.cells #[.int .i64 0, .int .i64 i, .string ⟨#[]⟩, .slice none 0 0, .slice none 0 0, .int .i64 0, .int .i64 j, .string ⟨#[]⟩, .slice none 0 0, .slice none 0 0] 25)).alloc (.cells #[.int .i64 3, .int .i64 0, .string ⟨#[78, 97, 116]⟩, .slice none 0 0, .slice none 0 0, .int .i64 4, .int .i64 0, .string ⟨#[]⟩, .slice none 0 0, .slice (some ⟨w.heap.size + 1 + 1 + 1, 0, none⟩) 2 2] 25)) := (hb3.alloc hb3.size _).alloc (by rw [World.size_alloc]; omega) _
  have ht : TmV ((W3.alloc (.cells #[.int .i64 0, .int .i64 i, .string ⟨#[]⟩, .slice none 0 0, .slice none 0 0, .int .i64 0, .int .i64 j, .string ⟨#[]⟩, .slice none 0 0, .slice none 0 0] 25)).alloc (.cells #[.int .i64 3, .int .i64 0, .string ⟨#[78, 97, 116]⟩, .slice none 0 0, .slice none 0 0, .int .i64 4, .int .i64 0, .string ⟨#[]⟩, .slice none 0 0, .slice (some ⟨w.heap.size + 1 + 1 + 1, 0, none⟩) 2 2] 25)) (W3.heap.size + 1 + 1) (fT i j) (.agg #[.int .i64 5, .int .i64 0, .string ⟨#[]⟩, .slice none 0 0, .slice (some ⟨w.heap.size + 1 + 1 + 1 + 1, 0, none⟩) 2 2]) := by
    unfold fT
    exact two_tv q1 (by omega) (co_tv _ _ _) (two_tv q0' (by omega) (vr_tv _ _ _) (vr_tv _ _ _))
  subst hW3
  exact bodyPost_ret (v := .agg #[.int .i64 5, .int .i64 0, .string ⟨#[]⟩, .slice none 0 0, .slice (some ⟨w.heap.size + 1 + 1 + 1 + 1, 0, none⟩) 2 2]) (by simp [results, Tryd.results28, go_sem]) rfl ⟨w.heap.size + 1 + 1 + 1 + 1, hb5, rfl, by simpa using ht⟩
set_option maxRecDepth 100000 in
set_option maxHeartbeats 8000000 in
theorem awake_any (w : World) (hsh : ShapesB w) (hw : 0 < w.heap.size) : Calls Tryd.prog 11 #[] w fun e w' => e = .returned (.bool true) ∧ Below w.heap.size w w' := by
  have HB := Lib.hid (Below.refl w.heap.size w)
  have HSH := Lib.hid hsh
  clear hsh
  go_enter Tryd.func11, Tryd.ntmps11
  go_wp2_with fail
  refine (awv_any 0 _).mono ?_
  rintro e w1 ⟨rfl, hb⟩
  have HB := Lib.hid (HB.out.trans (hb.mono HB.out.size))
  clear hb
  go_wp2_with fail
  refine (awv_any 1 _).mono ?_
  rintro e w2 ⟨rfl, hb⟩
  have HB := Lib.hid (HB.out.trans (hb.mono HB.out.size))
  clear hb
  go_wp2_with fail
  refine (awf_any 0 1 _).mono ?_
  rintro e w3 ⟨gw3, hb, rfl, ht⟩
  have HB := Lib.hid (HB.out.trans (hb.mono HB.out.size))
  have HF := Lib.hid ht
  clear hb ht
  go_wp2_with fail
  refine (sshift_any (fT 0 1) _ 2 0 w3.heap.size w3 HF.out (Nat.le_refl _) (by rw [fT_sz]; omega) (fT_qv _ _ (by omega) (by omega)) (by omega)).mono ?_
  rw [aw_e1, aw_o1]
  intro e w4 h
  obtain ⟨hb, k1, i1, n1, AL1, nl1, cl1, AK1, nk1, ck1, rfl, ht⟩ := h.tmv
  have HB := Lib.hid (HB.out.trans (hb.mono HB.out.size))
  clear hb h
  have hal : Below w4.heap.size w4 (w4.alloc (.cells #[.int .i64 k1, .int .i64 i1, .string n1, .slice AL1 nl1 cl1, .slice AK1 nk1 ck1] 25)) := (Below.refl _ _).alloc (Nat.le_refl _) _
  have hT := TB.new ht
  obtain ⟨w5, hw5⟩ : ∃ x, x = w4.alloc (.cells #[.int .i64 k1, .int .i64 i1, .string n1, .slice AL1 nl1 cl1, .slice AK1 nk1 ck1] 25) := ⟨_, rfl⟩
  rw [← hw5] at hal hT
  have HB := Lib.hid (HB.out.trans (hal.mono HB.out.size))
  have HA := Lib.hid hT
  have HW := Lib.hid hw5
  clear hw5 hal hT ht
  go_wp2_with fail
  rw [← HW.out]
  clear HW
  refine (awv_any 0 _).mono ?_
  rintro e w6 ⟨rfl, hb⟩
  have HA := Lib.hid (TB.next HA.out hb)
  have HB := Lib.hid (HB.out.trans (hb.mono HB.out.size))
  clear hb
  go_wp2_with fail
  refine (awv_any 1 _).mono ?_
  rintro e w7 ⟨rfl, hb⟩
  have HA := Lib.hid (TB.next HA.out hb)
  have HB := Lib.hid (HB.out.trans (hb.mono HB.out.size))
  clear hb
  go_wp2_with fail
  refine (awf_any 0 1 _).mono ?_
  rintro e w8 ⟨gw8, hb, rfl, ht⟩
  have HA := Lib.hid (TB.next HA.out hb)
  have HB := Lib.hid (HB.out.trans (hb.mono HB.out.size))
  have HF := Lib.hid ht
  clear hb ht
  go_wp2_with fail
  refine (sshift_any (fT 0 1) _ 2 1 w8.heap.size w8 HF.out (Nat.le_refl _) (by rw [fT_sz]; omega) (fT_qv _ _ (by omega) (by omega)) (by omega)).mono ?_
  rw [aw_e2, aw_o2]
  intro e w9 h
  obtain ⟨hb, k2, i2, n2, AL2, nl2, cl2, AK2, nk2, ck2, rfl, ht⟩ := h.tmv
  have HA := Lib.hid (TB.next HA.out hb)
  have HB := Lib.hid (HB.out.trans (hb.mono HB.out.size))
  clear hb h
  have hal : Below w9.heap.size w9 (w9.alloc (.cells #[.int .i64 k2, .int .i64 i2, .string n2, .slice AL2 nl2 cl2, .slice AK2 nk2 ck2] 25)) := (Below.refl _ _).alloc (Nat.le_refl _) _
  have hT := TB.new ht
  obtain ⟨w10, hw10⟩ : ∃ x, x = w9.alloc (.cells #[.int .i64 k2, .int .i64 i2, .string n2, .slice AL2 nl2 cl2, .slice AK2 nk2 ck2] 25) := ⟨_, rfl⟩
  rw [← hw10] at hal hT
  have HA := Lib.hid (TB.next HA.out hal)
  have HB := Lib.hid (HB.out.trans (hal.mono HB.out.size))
  have HC := Lib.hid hT
  have HW := Lib.hid hw10
  clear hw10 hal hT ht
  go_wp2_with fail
  rw [← HW.out]
  clear HW
  refine (awv_any 0 _).mono ?_
  rintro e w11 ⟨rfl, hb⟩
  have HA := Lib.hid (TB.next HA.out hb)
  have HC := Lib.hid (TB.next HC.out hb)
  have HB := Lib.hid (HB.out.trans (hb.mono HB.out.size))
  clear hb
  go_wp2_with fail
  refine (awv_any 1 _).mono ?_
  rintro e w12 ⟨rfl, hb⟩
  have HA := Lib.hid (TB.next HA.out hb)
  have HC := Lib.hid (TB.next HC.out hb)
  have HB := Lib.hid (HB.out.trans (hb.mono HB.out.size))
  clear hb
  go_wp2_with fail
  refine (awf_any 0 1 _).mono ?_
  rintro e w13 ⟨gw13, hb, rfl, ht⟩
  have HA := Lib.hid (TB.next HA.out hb)
  have HC := Lib.hid (TB.next HC.out hb)
  have HB := Lib.hid (HB.out.trans (hb.mono HB.out.size))
  have HF := Lib.hid ht
  clear hb ht
  go_wp2_with fail
  refine (sshift_any (fT 0 1) _ (-1) 0 w13.heap.size w13 HF.out (Nat.le_refl _) (by rw [fT_sz]; omega) (fT_qv _ _ (by omega) (by omega)) (by omega)).mono ?_
  rw [aw_e3, aw_o3]
  intro e w14 h
  obtain ⟨hb, k3, i3, n3, AL3, nl3, cl3, AK3, nk3, ck3, rfl, ht⟩ := h.tmv
  have HA := Lib.hid (TB.next HA.out hb)
  have HC := Lib.hid (TB.next HC.out hb)
  have HB := Lib.hid (HB.out.trans (hb.mono HB.out.size))
  clear hb h
  have hal : Below w14.heap.size w14 (w14.alloc (.cells #[.int .i64 k3, .int .i64 i3, .string n3, .slice AL3 nl3 cl3, .slice AK3 nk3 ck3] 25)) := (Below.refl _ _).alloc (Nat.le_refl _) _
  have hT := TB.new ht
  obtain ⟨w15, hw15⟩ : ∃ x, x = w14.alloc (.cells #[.int .i64 k3, .int .i64 i3, .string n3, .slice AL3 nl3 cl3, .slice AK3 nk3 ck3] 25) := ⟨_, rfl⟩
  rw [← hw15] at hal hT
  have HA := Lib.hid (TB.next HA.out hal)
  have HC := Lib.hid (TB.next HC.out hal)
  have HB := Lib.hid (HB.out.trans (hal.mono HB.out.size))
  have HD := Lib.hid hT
  have HW := Lib.hid hw15
  clear hw15 hal hT ht
  go_wp2_with fail
  rw [← HW.out]
  clear HW
  refine (awv_any 1 _).mono ?_
  rintro e w16 ⟨rfl, hb⟩
  have HA := Lib.hid (TB.next HA.out hb)
  have HC := Lib.hid (TB.next HC.out hb)
  have HD := Lib.hid (TB.next HD.out hb)
  have HB := Lib.hid (HB.out.trans (hb.mono HB.out.size))
  clear hb
  go_wp2_with fail
  refine (awv_any 2 _).mono ?_
  rintro e w17 ⟨rfl, hb⟩
  have HA := Lib.hid (TB.next HA.out hb)
  have HC := Lib.hid (TB.next HC.out hb)
  have HD := Lib.hid (TB.next HD.out hb)
  have HB := Lib.hid (HB.out.trans (hb.mono HB.out.size))
  clear hb
  go_wp2_with fail
  refine (awf_any 1 2 _).mono ?_
  rintro e w18 ⟨gw18, hb, rfl, ht⟩
  have HA := Lib.hid (TB.next HA.out hb)
  have HC := Lib.hid (TB.next HC.out hb)
  have HD := Lib.hid (TB.next HD.out hb)
  have HB := Lib.hid (HB.out.trans (hb.mono HB.out.size))
  have HF := Lib.hid ht
  clear hb ht
  go_wp2_with fail
  refine (awv_any 4 _).mono ?_
  rintro e w19 ⟨rfl, hb⟩
  have HA := Lib.hid (TB.next HA.out hb)
  have HC := Lib.hid (TB.next HC.out hb)
  have HD := Lib.hid (TB.next HD.out hb)
  have HF := Lib.hid (tv_next HF.out hb)
  have HB := Lib.hid (HB.out.trans (hb.mono HB.out.size))
  clear hb
  go_wp2_with fail
  have hal : Below w19.heap.size w19 (w19.alloc (.cells #[.int .i64 0, .int .i64 4, .string ⟨#[]⟩, .slice none 0 0, .slice none 0 0] 25)) := (Below.refl _ _).alloc (Nat.le_refl _) _
  have hro := World.alloc_heap_new w19 (.cells #[.int .i64 0, .int .i64 4, .string ⟨#[]⟩, .slice none 0 0, .slice none 0 0] 25)
  have hsz : (w19.alloc (.cells #[.int .i64 0, .int .i64 4, .string ⟨#[]⟩, .slice none 0 0, .slice none 0 0] 25)).heap.size = w19.heap.size + 1 := World.size_alloc _ _
  obtain ⟨w20, hw20⟩ : ∃ x, x = w19.alloc (.cells #[.int .i64 0, .int .i64 4, .string ⟨#[]⟩, .slice none 0 0, .slice none 0 0] 25) := ⟨_, rfl⟩
  rw [← hw20] at hal hro hsz ⊢
  have hvs : VsV w20 w20.heap.size (some ⟨w19.heap.size, 0, none⟩) [vr 4] := ⟨by simp, fun _ => ⟨w19.heap.size, 0, rfl, by omega, by rw [KsV, KsV]; exact ⟨⟨_, _, _, _, _, (cell_of_row _ _ 0 _ _ _ hro).trans rfl, (cell_of_row _ _ 1 _ _ _ hro).trans rfl, (cell_of_row _ _ 2 _ _ _ hro).trans rfl, (cell_of_row _ _ 3 _ _ _ hro).trans rfl, (cell_of_row _ _ 4 _ _ _ hro).trans rfl, vr_tv _ _ _⟩, trivial⟩⟩⟩
  have HA := Lib.hid (TB.next HA.out hal)
  have HC := Lib.hid (TB.next HC.out hal)
  have HD := Lib.hid (TB.next HD.out hal)
  have HF := Lib.hid (tv_next HF.out hal)
  have HB := Lib.hid (HB.out.trans (hal.mono HB.out.size))
  have HV := Lib.hid hvs
  clear hw20 hal hro hsz hvs
  refine (subst_any (fT 1 2) _ [vr 4] (some ⟨w19.heap.size, 0, none⟩) 1 w20.heap.size w20 HF.out HV.out (Nat.le_refl _) (by have := HB.out.size; omega) (fun q hq => (HB.out.cell (p := ⟨0, q * 5 + 4, none⟩) hw).trans (HSH.out q hq)) (by rw [fT_sz]; omega) (fT_qv _ _ (by omega) (by omega)) (by intro x hx; simp at hx; subst hx; exact ⟨by rw [szT_vr]; omega, qv_vr _ _ (by omega)⟩) (by simp)).mono ?_
  rw [aw_e4, aw_o4]
  intro e w21 h
  obtain ⟨hb, k4, i4, n4, AL4, nl4, cl4, AK4, nk4, ck4, rfl, ht⟩ := h.tmv
  have HA := Lib.hid (TB.next HA.out hb)
  have HC := Lib.hid (TB.next HC.out hb)
  have HD := Lib.hid (TB.next HD.out hb)
  have HB := Lib.hid (HB.out.trans (hb.mono HB.out.size))
  clear hb h
  have hal : Below w21.heap.size w21 (w21.alloc (.cells #[.int .i64 k4, .int .i64 i4, .string n4, .slice AL4 nl4 cl4, .slice AK4 nk4 ck4] 25)) := (Below.refl _ _).alloc (Nat.le_refl _) _
  have hT := TB.new ht
  obtain ⟨w22, hw22⟩ : ∃ x, x = w21.alloc (.cells #[.int .i64 k4, .int .i64 i4, .string n4, .slice AL4 nl4 cl4, .slice AK4 nk4 ck4] 25) := ⟨_, rfl⟩
  rw [← hw22] at hal hT
  have HA := Lib.hid (TB.next HA.out hal)
  have HC := Lib.hid (TB.next HC.out hal)
  have HD := Lib.hid (TB.next HD.out hal)
  have HB := Lib.hid (HB.out.trans (hal.mono HB.out.size))
  have HE := Lib.hid hT
  have HW := Lib.hid hw22
  clear hw22 hal hT ht
  go_wp2_with fail
  rw [← HW.out]
  clear HW
  refine (awv_any 3 _).mono ?_
  rintro e w23 ⟨rfl, hb⟩
  have HA := Lib.hid (TB.next HA.out hb)
  have HC := Lib.hid (TB.next HC.out hb)
  have HD := Lib.hid (TB.next HD.out hb)
  have HE := Lib.hid (TB.next HE.out hb)
  have HB := Lib.hid (HB.out.trans (hb.mono HB.out.size))
  clear hb
  go_wp2_with fail
  refine (awv_any 4 _).mono ?_
  rintro e w24 ⟨rfl, hb⟩
  have HA := Lib.hid (TB.next HA.out hb)
  have HC := Lib.hid (TB.next HC.out hb)
  have HD := Lib.hid (TB.next HD.out hb)
  have HE := Lib.hid (TB.next HE.out hb)
  have HB := Lib.hid (HB.out.trans (hb.mono HB.out.size))
  clear hb
  go_wp2_with fail
  have hal : Below w24.heap.size w24 ((w24.alloc (.cells #[.int .i64 3, .int .i64 0, .string ⟨#[78, 97, 116]⟩, .slice none 0 0, .slice none 0 0, .int .i64 0, .int .i64 4, .string ⟨#[]⟩, .slice none 0 0, .slice none 0 0] 25)).alloc (.cells #[.int .i64 0, .int .i64 3, .string ⟨#[]⟩, .slice none 0 0, .slice none 0 0, .int .i64 5, .int .i64 0, .string ⟨#[]⟩, .slice none 0 0, .slice (some ⟨w24.heap.size, 0, none⟩) 2 2] 25)) := (((Below.refl _ _).alloc (by (try simp only [World.size_alloc]); omega) _).alloc (by (try simp only [World.size_alloc]); omega) _)
  have q0 := World.alloc_heap_new w24 (.cells #[.int .i64 3, .int .i64 0, .string ⟨#[78, 97, 116]⟩, .slice none 0 0, .slice none 0 0, .int .i64 0, .int .i64 4, .string ⟨#[]⟩, .slice none 0 0, .slice none 0 0] 25)
  have q0 := (Below.heap_alloc (w24.alloc (.cells #[.int .i64 3, .int .i64 0, .string ⟨#[78, 97, 116]⟩, .slice none 0 0, .slice none 0 0, .int .i64 0, .int .i64 4, .string ⟨#[]⟩, .slice none 0 0, .slice none 0 0] 25)) (.cells #[.int .i64 0, .int .i64 3, .string ⟨#[]⟩, .slice none 0 0, .slice none 0 0, .int .i64 5, .int .i64 0, .string ⟨#[]⟩, .slice none 0 0, .slice (some ⟨w24.heap.size, 0, none⟩) 2 2] 25) _ (by (try simp only [World.size_alloc]); omega)).trans q0
  have q1 := World.alloc_heap_new (w24.alloc (.cells #[.int .i64 3, .int .i64 0, .string ⟨#[78, 97, 116]⟩, .slice none 0 0, .slice none 0 0, .int .i64 0, .int .i64 4, .string ⟨#[]⟩, .slice none 0 0, .slice none 0 0] 25)) (.cells #[.int .i64 0, .int .i64 3, .string ⟨#[]⟩, .slice none 0 0, .slice none 0 0, .int .i64 5, .int .i64 0, .string ⟨#[]⟩, .slice none 0 0, .slice (some ⟨w24.heap.size, 0, none⟩) 2 2] 25)
  simp only [World.size_alloc] at q1
  have hsz : ((w24.alloc (.cells #[.int .i64 3, .int .i64 0, .string ⟨#[78, 97, 116]⟩, .slice none 0 0, .slice none 0 0, .int .i64 0, .int .i64 4, .string ⟨#[]⟩, .slice none 0 0, .slice none 0 0] 25)).alloc (.cells #[.int .i64 0, .int .i64 3, .string ⟨#[]⟩, .slice none 0 0, .slice none 0 0, .int .i64 5, .int .i64 0, .string ⟨#[]⟩, .slice none 0 0, .slice (some ⟨w24.heap.size, 0, none⟩) 2 2] 25)).heap.size = w24.heap.size + 1 + 1 := by simp only [World.size_alloc]
  obtain ⟨w25, hw25⟩ : ∃ x, x = ((w24.alloc (.cells #[.int .i64 3, .int .i64 0, .string ⟨#[78, 97, 116]⟩, .slice none 0 0, .slice none 0 0, .int .i64 0, .int .i64 4, .string ⟨#[]⟩, .slice none 0 0, .slice none 0 0] 25)).alloc (.cells #[.int .i64 0, .int .i64 3, .string ⟨#[]⟩, .slice none 0 0, .slice none 0 0, .int .i64 5, .int .i64 0, .string ⟨#[]⟩, .slice none 0 0, .slice (some ⟨w24.heap.size, 0, none⟩) 2 2] 25)) := ⟨_, rfl⟩
  rw [← hw25] at hal hsz ⊢
  rw [← hw25] at q0
  rw [← hw25] at q1
  have hpt : TmV w25 w25.heap.size (pT 3 4) (.agg #[.int .i64 4, .int .i64 0, .string ⟨#[]⟩, .slice none 0 0, .slice (some ⟨w24.heap.size + 1, 0, none⟩) 2 2]) := by unfold pT; exact two_tv q1 (by omega) (vr_tv _ _ _) (two_tv q0 (by omega) (co_tv _ _ _) (vr_tv _ _ _))
  have HA := Lib.hid (TB.next HA.out hal)
  have HC := Lib.hid (TB.next HC.out hal)
  have HD := Lib.hid (TB.next HD.out hal)
  have HE := Lib.hid (TB.next HE.out hal)
  have HB := Lib.hid (HB.out.trans (hal.mono HB.out.size))
  have HP := Lib.hid hpt
  clear hw25 hal hsz q0 q1 hpt
  refine (awv_any 3 _).mono ?_
  rintro e w26 ⟨rfl, hb⟩
  have HA := Lib.hid (TB.next HA.out hb)
  have HC := Lib.hid (TB.next HC.out hb)
  have HD := Lib.hid (TB.next HD.out hb)
  have HE := Lib.hid (TB.next HE.out hb)
  have HP := Lib.hid (tv_next HP.out hb)
  have HB := Lib.hid (HB.out.trans (hb.mono HB.out.size))
  clear hb
  go_wp2_with fail
  refine (abstract_any (pT 3 4) (vr 3) _ _ w26.heap.size w26 HP.out (vr_tv _ _ _) (Nat.le_refl _) (by rw [pT_sz]; omega) (pT_qv _ _ (by omega) (by omega)) (by rw [szT_vr]; omega) (qv_vr _ _ (by omega))).mono ?_
  rw [aw_e5, aw_o5, aw_n5]
  intro e w27 h
  obtain ⟨hb, k5, i5, n5, AL5, nl5, cl5, AK5, nk5, ck5, rfl, ht⟩ := id h
  have HA := Lib.hid (TB.next HA.out hb)
  have HC := Lib.hid (TB.next HC.out hb)
  have HD := Lib.hid (TB.next HD.out hb)
  have HE := Lib.hid (TB.next HE.out hb)
  have HB := Lib.hid (HB.out.trans (hb.mono HB.out.size))
  clear hb h
  have hal : Below w27.heap.size w27 (w27.alloc (.cells #[.int .i64 k5, .int .i64 i5, .string n5, .slice AL5 nl5 cl5, .slice AK5 nk5 ck5] 25)) := (Below.refl _ _).alloc (Nat.le_refl _) _
  have hT := TB.new ht
  obtain ⟨w28, hw28⟩ : ∃ x, x = w27.alloc (.cells #[.int .i64 k5, .int .i64 i5, .string n5, .slice AL5 nl5 cl5, .slice AK5 nk5 ck5] 25) := ⟨_, rfl⟩
  rw [← hw28] at hal hT
  have HA := Lib.hid (TB.next HA.out hal)
  have HC := Lib.hid (TB.next HC.out hal)
  have HD := Lib.hid (TB.next HD.out hal)
  have HE := Lib.hid (TB.next HE.out hal)
  have HB := Lib.hid (HB.out.trans (hal.mono HB.out.size))
  have HG := Lib.hid hT
  have HW := Lib.hid hw28
  clear hw28 hal hT ht
  go_wp2_with fail
  rw [← HW.out]
  clear HW
  refine (awv_any 0 _).mono ?_
  rintro e w29 ⟨rfl, hb⟩
  have HA := Lib.hid (TB.next HA.out hb)
  have HC := Lib.hid (TB.next HC.out hb)
  have HD := Lib.hid (TB.next HD.out hb)
  have HE := Lib.hid (TB.next HE.out hb)
  have HG := Lib.hid (TB.next HG.out hb)
  have HB := Lib.hid (HB.out.trans (hb.mono HB.out.size))
  clear hb
  go_wp2_with fail
  refine (awv_any 1 _).mono ?_
  rintro e w30 ⟨rfl, hb⟩
  have HA := Lib.hid (TB.next HA.out hb)
  have HC := Lib.hid (TB.next HC.out hb)
  have HD := Lib.hid (TB.next HD.out hb)
  have HE := Lib.hid (TB.next HE.out hb)
  have HG := Lib.hid (TB.next HG.out hb)
  have HB := Lib.hid (HB.out.trans (hb.mono HB.out.size))
  clear hb
  go_wp2_with fail
  have hal : Below w30.heap.size w30 (((w30.alloc (.cells #[.int .i64 3, .int .i64 0, .string ⟨#[78, 97, 116]⟩, .slice none 0 0, .slice none 0 0, .int .i64 0, .int .i64 1, .string ⟨#[]⟩, .slice none 0 0, .slice none 0 0] 25)).alloc (.cells #[.int .i64 0, .int .i64 0, .string ⟨#[]⟩, .slice none 0 0, .slice none 0 0, .int .i64 5, .int .i64 0, .string ⟨#[]⟩, .slice none 0 0, .slice (some ⟨w30.heap.size, 0, none⟩) 2 2] 25)).alloc (.cells #[.int .i64 4, .int .i64 0, .string ⟨#[]⟩, .slice none 0 0, .slice (some ⟨w30.heap.size + 1, 0, none⟩) 2 2] 25)) := ((((Below.refl _ _).alloc (by (try simp only [World.size_alloc]); omega) _).alloc (by (try simp only [World.size_alloc]); omega) _).alloc (by (try simp only [World.size_alloc]); omega) _)
  have q0 := World.alloc_heap_new w30 (.cells #[.int .i64 3, .int .i64 0, .string ⟨#[78, 97, 116]⟩, .slice none 0 0, .slice none 0 0, .int .i64 0, .int .i64 1, .string ⟨#[]⟩, .slice none 0 0, .slice none 0 0] 25)
  have q0 := (Below.heap_alloc (w30.alloc (.cells #[.int .i64 3, .int .i64 0, .string ⟨#[78, 97, 116]⟩, .slice none 0 0, .slice none 0 0, .int .i64 0, .int .i64 1, .string ⟨#[]⟩, .slice none 0 0, .slice none 0 0] 25)) (.cells #[.int .i64 0, .int .i64 0, .string ⟨#[]⟩, .slice none 0 0, .slice none 0 0, .int .i64 5, .int .i64 0, .string ⟨#[]⟩, .slice none 0 0, .slice (some ⟨w30.heap.size, 0, none⟩) 2 2] 25) _ (by (try simp only [World.size_alloc]); omega)).trans q0
  have q0 := (Below.heap_alloc ((w30.alloc (.cells #[.int .i64 3, .int .i64 0, .string ⟨#[78, 97, 116]⟩, .slice none 0 0, .slice none 0 0, .int .i64 0, .int .i64 1, .string ⟨#[]⟩, .slice none 0 0, .slice none 0 0] 25)).alloc (.cells #[.int .i64 0, .int .i64 0, .string ⟨#[]⟩, .slice none 0 0, .slice none 0 0, .int .i64 5, .int .i64 0, .string ⟨#[]⟩, .slice none 0 0, .slice (some ⟨w30.heap.size, 0, none⟩) 2 2] 25)) (.cells #[.int .i64 4, .int .i64 0, .string ⟨#[]⟩, .slice none 0 0, .slice (some ⟨w30.heap.size + 1, 0, none⟩) 2 2] 25) _ (by (try simp only [World.size_alloc]); omega)).trans q0
  have q1 := World.alloc_heap_new (w30.alloc (.cells #[.int .i64 3, .int .i64 0, .string ⟨#[78, 97, 116]⟩, .slice none 0 0, .slice none 0 0, .int .i64 0, .int .i64 1, .string ⟨#[]⟩, .slice none 0 0, .slice none 0 0] 25)) (.cells #[.int .i64 0, .int .i64 0, .string ⟨#[]⟩, .slice none 0 0, .slice none 0 0, .int .i64 5, .int .i64 0, .string ⟨#[]⟩, .slice none 0 0, .slice (some ⟨w30.heap.size, 0, none⟩) 2 2] 25)
  simp only [World.size_alloc] at q1
  have q1 := (Below.heap_alloc ((w30.alloc (.cells #[.int .i64 3, .int .i64 0, .string ⟨#[78, 97, 116]⟩, .slice none 0 0, .slice none 0 0, .int .i64 0, .int .i64 1, .string ⟨#[]⟩, .slice none 0 0, .slice none 0 0] 25)).alloc (.cells #[.int .i64 0, .int .i64 0, .string ⟨#[]⟩, .slice none 0 0, .slice none 0 0, .int .i64 5, .int .i64 0, .string ⟨#[]⟩, .slice none 0 0, .slice (some ⟨w30.heap.size, 0, none⟩) 2 2] 25)) (.cells #[.int .i64 4, .int .i64 0, .string ⟨#[]⟩, .slice none 0 0, .slice (some ⟨w30.heap.size + 1, 0, none⟩) 2 2] 25) _ (by (try simp only [World.size_alloc]); omega)).trans q1
  have q2 := World.alloc_heap_new ((w30.alloc (.cells #[.int .i64 3, .int .i64 0, .string ⟨#[78, 97, 116]⟩, .slice none 0 0, .slice none 0 0, .int .i64 0, .int .i64 1, .string ⟨#[]⟩, .slice none 0 0, .slice none 0 0] 25)).alloc (.cells #[.int .i64 0, .int .i64 0, .string ⟨#[]⟩, .slice none 0 0, .slice none 0 0, .int .i64 5, .int .i64 0, .string ⟨#[]⟩, .slice none 0 0, .slice (some ⟨w30.heap.size, 0, none⟩) 2 2] 25)) (.cells #[.int .i64 4, .int .i64 0, .string ⟨#[]⟩, .slice none 0 0, .slice (some ⟨w30.heap.size + 1, 0, none⟩) 2 2] 25)
  simp only [World.size_alloc] at q2
  have hsz : (((w30.alloc (.cells #[.int .i64 3, .int .i64 0, .string ⟨#[78, 97, 116]⟩, .slice none 0 0, .slice none 0 0, .int .i64 0, .int .i64 1, .string ⟨#[]⟩, .slice none 0 0, .slice none 0 0] 25)).alloc (.cells #[.int .i64 0, .int .i64 0, .string ⟨#[]⟩, .slice none 0 0, .slice none 0 0, .int .i64 5, .int .i64 0, .string ⟨#[]⟩, .slice none 0 0, .slice (some ⟨w30.heap.size, 0, none⟩) 2 2] 25)).alloc (.cells #[.int .i64 4, .int .i64 0, .string ⟨#[]⟩, .slice none 0 0, .slice (some ⟨w30.heap.size + 1, 0, none⟩) 2 2] 25)).heap.size = w30.heap.size + 1 + 1 + 1 := by simp only [World.size_alloc]
  obtain ⟨w31, hw31⟩ : ∃ x, x = (((w30.alloc (.cells #[.int .i64 3, .int .i64 0, .string ⟨#[78, 97, 116]⟩, .slice none 0 0, .slice none 0 0, .int .i64 0, .int .i64 1, .string ⟨#[]⟩, .slice none 0 0, .slice none 0 0] 25)).alloc (.cells #[.int .i64 0, .int .i64 0, .string ⟨#[]⟩, .slice none 0 0, .slice none 0 0, .int .i64 5, .int .i64 0, .string ⟨#[]⟩, .slice none 0 0, .slice (some ⟨w30.heap.size, 0, none⟩) 2 2] 25)).alloc (.cells #[.int .i64 4, .int .i64 0, .string ⟨#[]⟩, .slice none 0 0, .slice (some ⟨w30.heap.size + 1, 0, none⟩) 2 2] 25)) := ⟨_, rfl⟩
  rw [← hw31] at hal hsz ⊢
  rw [← hw31] at q0
  rw [← hw31] at q1
  rw [← hw31] at q2
  have hpt : TmV w31 w31.heap.size (pT 0 1) (.agg #[.int .i64 4, .int .i64 0, .string ⟨#[]⟩, .slice none 0 0, .slice (some ⟨w30.heap.size + 1, 0, none⟩) 2 2]) := by unfold pT; exact two_tv q1 (by omega) (vr_tv _ _ _) (two_tv q0 (by omega) (co_tv _ _ _) (vr_tv _ _ _))
  have hT : TB (w30.heap.size + 1 + 1) (pT 0 1) 4 0 ⟨#[]⟩ none 0 0 (some ⟨w30.heap.size + 1, 0, none⟩) 2 2 w31 := ⟨B5.row q2, hpt⟩
  have HA := Lib.hid (TB.next HA.out hal)
  have HC := Lib.hid (TB.next HC.out hal)
  have HD := Lib.hid (TB.next HD.out hal)
  have HE := Lib.hid (TB.next HE.out hal)
  have HG := Lib.hid (TB.next HG.out hal)
  have HB := Lib.hid (HB.out.trans (hal.mono HB.out.size))
  have HQ := Lib.hid hT
  clear hw31 hal hsz q0 q1 q2 hpt hT
  have HB := Lib.hid (And.intro HB.out (And.intro HA.out (And.intro HC.out (And.intro HE.out (And.intro HG.out HQ.out)))))
  have hbd : Below w31.heap.size w31 w31.drew := (Below.refl _ _).drew
  have HB := Lib.hid (And.intro (HB.out.1.trans (hbd.mono HB.out.1.size)) (And.intro (HB.out.2.1.next hbd) (And.intro (HB.out.2.2.1.next hbd) (And.intro (HB.out.2.2.2.1.next hbd) (And.intro (HB.out.2.2.2.2.1.next hbd) (HB.out.2.2.2.2.2.next hbd))))))
  clear hbd HA HC HD HE HG HQ HP HV HF
  go_wp2_with fail
  go_region_held3 (fun w' => w'.cell? ⟨w4.heap.size, 0, none⟩ = some (.int .i64 k1) ∧ w'.cell? ⟨w4.heap.size, 1, none⟩ = some (.int .i64 i1) ∧ w'.cell? ⟨w4.heap.size, 2, none⟩ = some (.string n1) ∧ w'.cell? ⟨w4.heap.size, 3, none⟩ = some (.slice AL1 nl1 cl1) ∧ w'.cell? ⟨w4.heap.size, 4, none⟩ = some (.slice AK1 nk1 ck1) ∧ w'.cell? ⟨w9.heap.size, 0, none⟩ = some (.int .i64 k2) ∧ w'.cell? ⟨w9.heap.size, 1, none⟩ = some (.int .i64 i2) ∧ w'.cell? ⟨w9.heap.size, 2, none⟩ = some (.string n2) ∧ w'.cell? ⟨w9.heap.size, 3, none⟩ = some (.slice AL2 nl2 cl2) ∧ w'.cell? ⟨w9.heap.size, 4, none⟩ = some (.slice AK2 nk2 ck2) ∧ w'.cell? ⟨w21.heap.size, 0, none⟩ = some (.int .i64 k4) ∧ w'.cell? ⟨w21.heap.size, 1, none⟩ = some (.int .i64 i4) ∧ w'.cell? ⟨w21.heap.size, 2, none⟩ = some (.string n4) ∧ w'.cell? ⟨w21.heap.size, 3, none⟩ = some (.slice AL4 nl4 cl4) ∧ w'.cell? ⟨w21.heap.size, 4, none⟩ = some (.slice AK4 nk4 ck4) ∧ w'.cell? ⟨w27.heap.size, 0, none⟩ = some (.int .i64 k5) ∧ w'.cell? ⟨w27.heap.size, 1, none⟩ = some (.int .i64 i5) ∧ w'.cell? ⟨w27.heap.size, 2, none⟩ = some (.string n5) ∧ w'.cell? ⟨w27.heap.size, 3, none⟩ = some (.slice AL5 nl5 cl5) ∧ w'.cell? ⟨w27.heap.size, 4, none⟩ = some (.slice AK5 nk5 ck5) ∧ w'.cell? ⟨w30.heap.size + 1 + 1, 0, none⟩ = some (.int .i64 4) ∧ w'.cell? ⟨w30.heap.size + 1 + 1, 1, none⟩ = some (.int .i64 0) ∧ w'.cell? ⟨w30.heap.size + 1 + 1, 2, none⟩ = some (.string ⟨#[]⟩) ∧ w'.cell? ⟨w30.heap.size + 1 + 1, 3, none⟩ = some (.slice none 0 0) ∧ w'.cell? ⟨w30.heap.size + 1 + 1, 4, none⟩ = some (.slice (some ⟨w30.heap.size + 1, 0, none⟩) 2 2))
    (first | exact ⟨HB.out.2.1.b5.x0, HB.out.2.1.b5.x1, HB.out.2.1.b5.x2, HB.out.2.1.b5.x3, HB.out.2.1.b5.x4, HB.out.2.2.1.b5.x0, HB.out.2.2.1.b5.x1, HB.out.2.2.1.b5.x2, HB.out.2.2.1.b5.x3, HB.out.2.2.1.b5.x4, HB.out.2.2.2.1.b5.x0, HB.out.2.2.2.1.b5.x1, HB.out.2.2.2.1.b5.x2, HB.out.2.2.2.1.b5.x3, HB.out.2.2.2.1.b5.x4, HB.out.2.2.2.2.1.b5.x0, HB.out.2.2.2.2.1.b5.x1, HB.out.2.2.2.2.1.b5.x2, HB.out.2.2.2.2.1.b5.x3, HB.out.2.2.2.2.1.b5.x4, HB.out.2.2.2.2.2.b5.x0, HB.out.2.2.2.2.2.b5.x1, HB.out.2.2.2.2.2.b5.x2, HB.out.2.2.2.2.2.b5.x3, HB.out.2.2.2.2.2.b5.x4⟩)
    (first
    | (go_at_call 27; refine (awv_any _ _).mono ?_; rintro e w7 ⟨rfl, hb7⟩; have HB := Lib.hid (And.intro (HB.out.1.trans (hb7.mono HB.out.1.size)) (And.intro (HB.out.2.1.next hb7) (And.intro (HB.out.2.2.1.next hb7) (And.intro (HB.out.2.2.2.1.next hb7) (And.intro (HB.out.2.2.2.2.1.next hb7) (HB.out.2.2.2.2.2.next hb7)))))); clear hb7)
    | (go_at_call 28; refine (awf_any _ _ _).mono ?_; rintro e w7 ⟨g7, hb7, rfl, ht7⟩; have HB := Lib.hid (And.intro (HB.out.1.trans (hb7.mono HB.out.1.size)) (And.intro (HB.out.2.1.next hb7) (And.intro (HB.out.2.2.1.next hb7) (And.intro (HB.out.2.2.2.1.next hb7) (And.intro (HB.out.2.2.2.2.1.next hb7) (HB.out.2.2.2.2.2.next hb7)))))); have HF := Lib.hid ht7; clear hb7 ht7)
    | (go_at_call 14; refine (rsameT_any 100 (fT 0 3) (fT 0 3) _ _ _ _ (by simp only [fT_sz]; omega) HB.out.2.1.tv HF.out (Nat.le_refl _)).mono ?_; rw [aw_s1]; rintro e w7 ⟨rfl, hb7⟩; have HB := Lib.hid (And.intro (HB.out.1.trans (hb7.mono HB.out.1.size)) (And.intro (HB.out.2.1.next hb7) (And.intro (HB.out.2.2.1.next hb7) (And.intro (HB.out.2.2.2.1.next hb7) (And.intro (HB.out.2.2.2.2.1.next hb7) (HB.out.2.2.2.2.2.next hb7)))))); clear hb7)
    | (go_at_call 14; refine (rsameT_any 100 (fT 0 1) (fT 0 1) _ _ _ _ (by simp only [fT_sz]; omega) HB.out.2.2.1.tv HF.out (Nat.le_refl _)).mono ?_; rw [aw_s2]; rintro e w7 ⟨rfl, hb7⟩; have HB := Lib.hid (And.intro (HB.out.1.trans (hb7.mono HB.out.1.size)) (And.intro (HB.out.2.1.next hb7) (And.intro (HB.out.2.2.1.next hb7) (And.intro (HB.out.2.2.2.1.next hb7) (And.intro (HB.out.2.2.2.2.1.next hb7) (HB.out.2.2.2.2.2.next hb7)))))); clear hb7)
    | (go_at_call 14; refine (rsameT_any 100 (fT 5 1) (fT 5 1) _ _ _ _ (by simp only [fT_sz]; omega) HB.out.2.2.2.1.tv HF.out (Nat.le_refl _)).mono ?_; rw [aw_s4]; rintro e w7 ⟨rfl, hb7⟩; have HB := Lib.hid (And.intro (HB.out.1.trans (hb7.mono HB.out.1.size)) (And.intro (HB.out.2.1.next hb7) (And.intro (HB.out.2.2.1.next hb7) (And.intro (HB.out.2.2.2.1.next hb7) (And.intro (HB.out.2.2.2.2.1.next hb7) (HB.out.2.2.2.2.2.next hb7)))))); clear hb7)
    | (go_at_call 14; refine (rsameT_any 100 (pT 0 1) (pT 0 1) _ _ _ _ (by simp only [pT_sz]; omega) HB.out.2.2.2.2.1.tv HB.out.2.2.2.2.2.tv (Nat.le_refl _)).mono ?_; rw [aw_s5]; rintro e w7 ⟨rfl, hb7⟩; have HB := Lib.hid (And.intro (HB.out.1.trans (hb7.mono HB.out.1.size)) (And.intro (HB.out.2.1.next hb7) (And.intro (HB.out.2.2.1.next hb7) (And.intro (HB.out.2.2.2.1.next hb7) (And.intro (HB.out.2.2.2.2.1.next hb7) (HB.out.2.2.2.2.2.next hb7)))))); clear hb7))
  all_goals
    go_wp2_with fail
    go_ret
    exact ⟨rfl, HB.out.1⟩
end Go.Proofs.YtobaeeobfcffoaaDoor
