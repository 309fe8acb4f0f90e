/- A term that the check accepts: its variables stand alone and are not too great. What a walk makes keeps bounds. -/
import Derived.Test.YtobaeeobfcffoaaDoorRsf
import Derived.Test.YtobaeeobfcffoaaDoorPar
import Derived.Test.YtobaeeobfcffoaaDoorNmr
import Derived.Test.YtobaeeobfcffoaaDoorFwk
import Derived.Test.YtobaeeobfcffoaaDoorNdb
/-! A term that the check accepts: its variables stand alone and are not too great. What a walk makes keeps bounds. -/
namespace Go.Proofs.YtobaeeobfcffoaaDoor
open Go.RowKit

theorem form_var {i : Int} {nm : ByteArray} {nl nk : Nat} (h : formB 0 i nm nl nk = true) : nm = ⟨#[]⟩ ∧ nl = 0 ∧ nk = 0 := by
  have e : formB 0 i nm nl nk = (nm.toList.isEmpty && (((0 : Int) == (nl : Int)) && ((0 : Int) == (nk : Int)))) := by
    simp [formB, isKd, shI, shN, shL, kidsN]
  rw [e] at h
  simp only [Bool.and_eq_true, beq_iff_eq] at h
  obtain ⟨h1, h2, h3⟩ := h
  rw [ba_list] at h1
  refine ⟨?_, by omega, by omega⟩
  obtain ⟨⟨l⟩⟩ := nm
  cases l with
  | nil => rfl
  | cons a l => cases h1
/-- What a node is that the check accepts. -/
def Wq (t : Tm) (d : Nat) : Prop := Wg t d ∧ Qv t d
theorem wq_node {p m l k i : Int} {nm : ByteArray} {ls : List (Int × List (Int × Int))} {ks : List Tm} {b d : Nat} (hi : -9223372036854775808 ≤ i ∧ i ≤ 9223372036854775807) (hb : b ≤ 900000000) (h : chkT 65536 p m l ⟨.mk k i nm ls ks, b, d⟩ = 0) : Wq (.mk k i nm ls ks) b := by
  have h : chkN 65536 p m l k i b nm ls ks.length = 0 := h
  have key : k = 0 → (nm = ⟨#[]⟩ ∧ ls = [] ∧ ks = [] ∧ 0 ≤ i) ∧ i < 65536 + b := by
    rintro rfl
    unfold chkN at h
    split at h
    · cases h
    · rename_i hf
      obtain ⟨e1, e2, e3⟩ := form_var (by simpa using hf)
      split at h
      · cases h
      · split at h
        · cases h
        · split at h
          · rename_i hl; exact absurd h hl
          · unfold endN at h
            split at h
            · cases h
            · rename_i hv
              have hv' : ¬ (i < 0 ∨ 65536 ≤ wrap64 (i - b)) := by
                intro hh
                apply hv
                simpa using hh
              have ew : 0 ≤ i → wrap64 (i - b) = i - b := by
                intro h0
                unfold wrap64
                omega
              have h0 : 0 ≤ i := by omega
              rw [ew h0] at hv'
              exact ⟨⟨e1, List.length_eq_zero_iff.1 e2, List.length_eq_zero_iff.1 e3, h0⟩, by omega⟩
  exact ⟨⟨fun hk => (key hk).1, fun hk => (key hk).2⟩, fun hk => ⟨(key hk).1.2.2.2, by have := (key hk).2; omega⟩⟩
mutual
theorem wel_t (p m l : Int) : ∀ (t : Tm) (b d : Nat), WfT t → b + szT t ≤ 900000000 → chkL 65536 p m l (preT t b d) = 0 → AllT Wq t b
  | .mk k i nm ls ks, b, d, hw, hs, h => by
    rw [WfT] at hw
    rw [szT] at hs
    rw [preT, chkL] at h
    split at h
    · rename_i h0
      rw [AllT]
      exact ⟨wq_node hw.1 (by omega) h0, wel_l p m l ks k b d 0 hw.2 (by omega) h⟩
    · rename_i h0; exact absurd h h0
theorem wel_l (p m l : Int) : ∀ (ks : List Tm) (k : Int) (b d j : Nat), WfL ks → b + szL ks + 1 ≤ 900000000 → chkL 65536 p m l (preL ks k b d j) = 0 → AllL Wq ks k b j
  | [], _, _, _, _, _, _, _ => by rw [AllL]; trivial
  | q :: r, k, b, d, j, hw, hs, h => by
    rw [WfL] at hw
    rw [szL] at hs
    rw [preL] at h
    have h2 := chkL_app0 h
    have hx : bbN k j ≤ 1 := by unfold bbN; split <;> omega
    rw [AllL]
    exact ⟨wel_t p m l q (b + bbN k j) (d + 1) hw.1 (by omega) h2.1, wel_l p m l r k b d (j + 1) hw.2 (by have := szT_pos q; omega) h2.2⟩
end
/-- What the laws ask of a term. -/
structure GoodT (t : Tm) : Prop where
  wg : AllT Wg t 0
  wv : AllT Wv t 0
  qv : AllT Qv t 0
  sz : szT t ≤ 200
theorem goodT_of {t : Tm} (hw : WfT t) (hs : szT t ≤ 200) (h : chkC 65536 8 65536 65536 t = 0) : GoodT t := by
  have h1 := (chkC_parts h).1
  rw [show max 0 (65536 : Int) = 65536 from rfl, show max 0 (8 : Int) = 8 from rfl] at h1
  have h2 := wel_t 8 65536 65536 t 0 1 hw (by omega) h1
  exact ⟨AllT.mono (fun _ _ h => h.1) _ _ h2, AllT.mono (fun _ _ h => h.1.1) _ _ h2, AllT.mono (fun _ _ h => h.2) _ _ h2, hs⟩
mutual
/-- What a walk without an error makes of a term: a predicate of nodes that the kids do not touch. -/
theorem cp_all {R : Tm → Nat → Option Ou} {Q Q' : Tm → Nat → Prop} {c : Nat} (hR : ∀ t d x, Q t d → R t d = some x → x.e = 0 → AllT Q' x.t (d + c)) (hn : ∀ k i nm ls ks ks' d, Q (.mk k i nm ls ks) d → R (.mk k i nm ls ks) d = none → ks.length = ks'.length → Q' (.mk k i nm ls ks') (d + c)) : ∀ (t : Tm) (d : Nat), AllT Q t d → (cpT R t d).e = 0 → AllT Q' (cpT R t d).t (d + c)
  | .mk k i nm ls ks, d, h, he => by
    cases hr : R (.mk k i nm ls ks) d with
    | some x =>
      rw [cpT_some hr] at he ⊢
      exact hR _ _ _ h.here hr he
    | none =>
      rw [cpT_none hr] at he ⊢
      have h1 := h.here
      rw [AllT] at h
      show AllT Q' (.mk k i nm ls _) _
      rw [AllT]
      exact ⟨hn _ _ _ _ _ _ _ h1 hr (cpL_length R ks k d 0).symm, cp_allL hR hn ks k d 0 h.2 he⟩
theorem cp_allL {R : Tm → Nat → Option Ou} {Q Q' : Tm → Nat → Prop} {c : Nat} (hR : ∀ t d x, Q t d → R t d = some x → x.e = 0 → AllT Q' x.t (d + c)) (hn : ∀ k i nm ls ks ks' d, Q (.mk k i nm ls ks) d → R (.mk k i nm ls ks) d = none → ks.length = ks'.length → Q' (.mk k i nm ls ks') (d + c)) : ∀ (ks : List Tm) (k : Int) (d j : Nat), AllL Q ks k d j → (cpL R ks k d j).e = 0 → AllL Q' (cpL R ks k d j).ts k (d + c) j
  | [], _, _, _, _, _ => by rw [cpL, AllL]; trivial
  | q :: r, k, d, j, h, he => by
    rw [AllL] at h
    rw [cpL] at he ⊢
    have he' := er_eq_zero.1 he
    show AllL Q' (_ :: _) _ _ _
    rw [AllL]
    have h1 := cp_all hR hn q (d + bbN k j) h.1 he'.1
    rw [show d + bbN k j + c = d + c + bbN k j by omega] at h1
    exact ⟨h1, cp_allL hR hn r k d (j + 1) h.2 he'.2⟩
end
theorem big_zero {i : Int} (h : big i = 0) : i ≤ 65535 := by
  unfold big at h
  split at h
  · cases h
  · omega
theorem qv_vr' (i : Int) (d : Nat) (h : 0 ≤ i ∧ i ≤ 1000000000) : AllT Qv (vr i) d := by
  unfold vr
  rw [AllT, AllL]
  exact ⟨fun _ => h, trivial⟩
mutual
theorem qv_anyT : ∀ (t : Tm) (d d' : Nat), AllT Qv t d → AllT Qv t d'
  | .mk k i nm ls ks, d, d', h => by
    rw [AllT] at h ⊢
    exact ⟨h.1, qv_anyL ks k d d' 0 h.2⟩
theorem qv_anyL : ∀ (ks : List Tm) (k : Int) (d d' j : Nat), AllL Qv ks k d j → AllL Qv ks k d' j
  | [], _, _, _, _, _ => by rw [AllL]; trivial
  | q :: r, k, d, d', j, h => by
    rw [AllL] at h ⊢
    exact ⟨qv_anyT q _ _ h.1, qv_anyL r k d d' (j + 1) h.2⟩
end
theorem qv_any {t : Tm} {d : Nat} (d' : Nat) (h : AllT Qv t d) : AllT Qv t d' := qv_anyT t d d' h
theorem sh_qv {by_ fr : Int} (hfr : 0 ≤ fr) {t : Tm} {d : Nat} (h : AllT Qv t d) (he : (cpT (shR by_ fr) t d).e = 0) : AllT Qv (cpT (shR by_ fr) t d).t d := by
  refine cp_all (c := 0) (Q := Qv) (fun t d x hq hr hx => ?_) (fun k i nm ls ks ks' d hq _ _ => hq) t d h he
  cases t with
  | mk k i nm ls ks =>
    simp only [shR] at hr
    split at hr
    · rename_i hc
      injection hr with hr
      subst hr
      have hx' := er_eq_zero.1 hx
      have h1 := big_zero hx'.2
      have h2 : ¬ (i - d - fr < -by_) := by
        intro h
        rw [if_pos h] at hx'
        exact absurd hx'.1 (by decide)
      exact qv_vr' _ _ ⟨by omega, by omega⟩
    · cases hr
theorem un_qv {vals : List Tm} {dep : Int} (hdep : 0 ≤ dep) (hvals : ∀ x ∈ vals, AllT Qv x 0) {t : Tm} {d : Nat} (h : AllT Qv t d) (he : (cpT (undR vals dep) t d).e = 0) : AllT Qv (cpT (undR vals dep) t d).t d := by
  refine cp_all (c := 0) (Q := Qv) (fun t d x hq hr hx => ?_) (fun k i nm ls ks ks' d hq _ _ => hq) t d h he
  cases t with
  | mk k i nm ls ks =>
    simp only [undR] at hr
    split at hr
    · rename_i hc
      split at hr
      · rename_i y hy
        injection hr with hr
        subst hr
        have h1 := sh_qv (by_ := dep + d) (fr := 0) (Int.le_refl _) (hvals y (List.mem_of_getElem? hy)) hx
        exact qv_any _ h1
      · rename_i hy
        injection hr with hr
        subst hr
        have h1 := big_zero hx
        have h2 : vals.length ≤ (i - d - dep).toNat := List.getElem?_eq_none_iff.1 hy
        exact qv_vr' _ _ ⟨by omega, by omega⟩
    · cases hr
end Go.Proofs.YtobaeeobfcffoaaDoor

/-! The laws' Good: what it has seen of the terms. -/
namespace Go.Proofs.YtobaeeobfcffoaaDoor
open Go.RowKit

/-- A term put into a list of one. -/
theorem listed_of {wx : World} {B : Nat} {t : Tm} {c0 c1 c2 c3 c4 : Value} (htm : TmV wx B t (.agg #[c0, c1, c2, c3, c4])) (hB : B ≤ wx.heap.size) : KidsA (wx.alloc (.cells #[c0, c1, c2, c3, c4] 25)) (wx.heap.size + 1) (some ⟨wx.heap.size, 0, none⟩) [t] := by
  have hn := World.alloc_heap_new wx (.cells #[c0, c1, c2, c3, c4] 25)
  have h2 := (htm.below ((Below.refl wx.heap.size wx).alloc (Nat.le_refl _) (.cells #[c0, c1, c2, c3, c4] 25)) hB).more (B' := wx.heap.size + 1) (by omega)
  have hks : KsV (wx.alloc (.cells #[c0, c1, c2, c3, c4] 25)) (wx.heap.size + 1) wx.heap.size 0 [t] := by
    rw [KsV, KsV]
    exact ⟨⟨c0, c1, c2, c3, c4, cell_of_row _ _ 0 _ _ _ hn, cell_of_row _ _ 1 _ _ _ hn, cell_of_row _ _ 2 _ _ _ hn, cell_of_row _ _ 3 _ _ _ hn, cell_of_row _ _ 4 _ _ _ hn, h2⟩, trivial⟩
  have hp : TmV (wx.alloc (.cells #[c0, c1, c2, c3, c4] 25)) (wx.heap.size + 1) (.mk 0 0 ⟨#[]⟩ [] [t]) (.agg #[.int .i64 0, .int .i64 0, .string ⟨#[]⟩, .slice none 0 0, .slice (some ⟨wx.heap.size, 0, none⟩) 1 1]) := by
    rw [TmV]
    exact ⟨none, 0, some ⟨wx.heap.size, 0, none⟩, 1, rfl, ⟨by simp, fun h => by simp at h⟩, by simp, fun _ => ⟨wx.heap.size, 0, rfl, by omega, hks⟩⟩
  exact hp.kidsA.1

theorem mem_take_succ {α : Type} {l : List α} {j : Nat} (hj : j < l.length) {P : α → Prop} (h : ∀ q ∈ l.take j, P q) (hq : P l[j]) : ∀ q ∈ l.take (j + 1), P q := by
  intro q hm
  rw [List.take_add_one, List.getElem?_eq_getElem hj, Option.toList_some] at hm
  rcases List.mem_append.1 hm with hm | hm
  · exact h q hm
  · rw [List.mem_singleton.1 hm]; exact hq
set_option maxRecDepth 100000 in
set_option maxHeartbeats 4000000 in
theorem good_any (ks : List Tm) (AK : Option Addr) (ck B : Nat) (w : World) (hlen : ks.length ≤ 1759218604441) (hK : KidsA w B AK ks) (hB : B ≤ w.heap.size) (hwf : ∀ q ∈ ks, WfT q) :
    Calls Tryd.prog 10 #[.slice AK ks.length ck] w fun e w' => ∃ b, e = .returned (.bool b) ∧ Below w.heap.size w w' ∧ (b = true → ∀ q ∈ ks, GoodT q) := by
  have HK := Lib.hid hK
  have HWF := Lib.hid hwf
  clear hK hwf
  go_enter Tryd.func10, Tryd.ntmps10
  go_wp2_with fail
  refine (few_any (szL ks + 1) ks AK ck B _ (by omega) hlen HK.out hB).mono ?_
  rintro e w1 ⟨b, rfl, hb1, hf⟩
  cases b with
  | false =>
    clear hf
    go_wp2_with fail
    exact bodyPost_ret (v := .bool false) (by simp [results, Tryd.results10, go_sem]) rfl ⟨false, rfl, hb1, fun h => by cases h⟩
  | true =>
    have HF := Lib.hid (hf rfl).sz
    clear hf
    go_wp2_with fail
    go_loopw [10] (fun v10 wr => ∃ j : Nat, v10 = .int .i64 (j : Int) ∧ j ≤ ks.length ∧ Below w.heap.size w wr ∧ Hid (∀ q ∈ ks.take j, GoodT q)) (fun v10 _ => ks.length - (intOf v10).toNat)
    case atStart => exact ⟨0, rfl, Nat.zero_le _, hb1, Lib.hid (fun q hq => by cases hq)⟩
    case round =>
      obtain ⟨j, rfl, hj, hb, hx⟩ := hrel
      clear hb1
      by_cases hjl : j < ks.length
      · obtain ⟨b, off, rfl, hbB, k', i', nm', AL', nl', cl', AK', ck', h0, h1, h2, h3, h4, hq⟩ := HK.out j ks[j] (List.getElem?_eq_getElem hjl)
        have hbw : b < w.heap.size := by omega
        replace h0 := (hb.cell (p := ⟨b, off + j * 5, none⟩) hbw).trans h0
        replace h1 := (hb.cell (p := ⟨b, off + j * 5 + 1, none⟩) hbw).trans h1
        replace h2 := (hb.cell (p := ⟨b, off + j * 5 + 2, none⟩) hbw).trans h2
        replace h3 := (hb.cell (p := ⟨b, off + j * 5 + 3, none⟩) hbw).trans h3
        replace h4 := (hb.cell (p := ⟨b, off + j * 5 + 4, none⟩) hbw).trans h4
        have hq1 := (hq.below hb hB).below ((Below.refl wr.heap.size wr).alloc (Nat.le_refl _) (.cells #[.int .i64 k', .int .i64 i', .string nm', .slice AL' nl' cl', .slice AK' ks[j].kids.length ck'] 25)) (Nat.le_trans hB hb.size)
        have HQ := Lib.hid hq1
        have hsz : szT ks[j] ≤ 200 := by have := szL_mem (List.getElem_mem hjl); have := HF.out; omega
        have HW := Lib.hid (HWF.out ks[j] (List.getElem_mem hjl))
        have HBA := Lib.hid (hb.alloc hb.size (.cells #[.int .i64 k', .int .i64 i', .string nm', .slice AL' nl' cl', .slice AK' ks[j].kids.length ck'] 25))
        have hBr : B ≤ wr.heap.size := Nat.le_trans hB hb.size
        clear hq hq1
        go_wp2_with fail
        refine (rcheckC_any ks[j] _ 65536 8 65536 65536 B _ HQ.out (by simp; omega) (by omega)).mono ?_
        rintro e w2 ⟨rfl, hb2⟩
        have HB2 := Lib.hid (HBA.out.trans (hb2.mono (by have := HBA.out.size; omega)))
        clear hb2
        by_cases hc : chkC 65536 8 65536 65536 ks[j] = 0
        · have HX := Lib.hid (mem_take_succ hjl hx.out (goodT_of HW.out hsz hc))
          rw [hc]
          clear hc
          go_wp2_with fail
          go_roundw
          case rel => exact ⟨j + 1, by go_num, by omega, HB2.out, HX⟩
          case measure => simp [intOf]; omega
        · have hd : (chkC 65536 8 65536 65536 ks[j] == 0) = false := by simpa using hc
          generalize chkC 65536 8 65536 65536 ks[j] = ev at *
          go_wp2_with fail
          exact bodyPost_ret (v := .bool false) (by simp [results, Tryd.results10, go_sem]) rfl ⟨false, rfl, HB2.out, fun h => by cases h⟩
      · have he : ks.take j = ks := List.take_of_length_le (by omega)
        have HX := Lib.hid (show ∀ q ∈ ks, GoodT q by rw [← he]; exact hx.out)
        have hd2 : decide ((j : Int) < (ks.length : Int)) = false := by rw [decide_eq_false_iff_not]; omega
        clear he
        go_wp2_with fail
        exact bodyPost_ret (v := .bool true) (by simp [results, Tryd.results10, go_sem]) rfl ⟨true, rfl, hb, fun _ => HX.out⟩
end Go.Proofs.YtobaeeobfcffoaaDoor
