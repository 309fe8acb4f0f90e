/- Eval of the program and of the reference, slices.Equal over integers, Metas of the program. -/
import Derived.Test.YtpkheelcfkiacaaGreatDoorVlu
import Derived.Test.YtpkheelcfkiacaaGreatDoorPrm
import Derived.Test.YtpkheelcfkiacaaGreatDoorLeq
import Derived.Deep.DeepCutAuto
import Derived.Deep.CutRange
import Derived.Test.YtpkheelcfkiacaaGreatDoorRmt
import Derived.Test.YtpkheelcfkiacaaGreatDoorBwd
import Derived.Test.YtpkheelcfkiacaaGreatDoorTxu
import Derived.RangeFuncBound
import Derived.RangeFuncCalls
namespace Go.Proofs.YtpkheelcfkiacaaGreatDoor
open Go.RowKit

def okP (ps : List Int) : Bool := ps.all fun p => decide (0 ≤ p) && decide (p ≤ 1000000)
def metaB (vs : List (Int × Int)) : Bool := vs.any fun p => decide (p.1 < 0)
/-- What Eval returns: the value and the error. -/
def evalR (ps : List Int) (c : Int) (vs : List (Int × Int)) : Int × Int :=
  if vldB c vs = true then if okP ps = true then if metaB vs = true then (0, 23) else if (ps.length : Int) < parI c vs then (0, 24) else (evL ps vs c, 0) else (0, 2) else (0, 3)

/-- The first k values are in range. -/
def OkP (ps : List Int) (k : Nat) : Prop := ∀ j, j < k → j < ps.length → 0 ≤ ps.getD j 0 ∧ ps.getD j 0 ≤ 1000000
theorem okP_all {ps : List Int} (h : OkP ps ps.length) : okP ps = true := by
  unfold okP
  rw [List.all_eq_true]
  intro p hp
  obtain ⟨j, hj, rfl⟩ := List.mem_iff_getElem.1 hp
  have := h j hj hj
  rw [List.getD_eq_getElem?_getD, List.getElem?_eq_getElem hj] at this
  simpa using this
theorem okP_no {ps : List Int} {k : Nat} (hk : k < ps.length) (h : ¬ (0 ≤ ps.getD k 0 ∧ ps.getD k 0 ≤ 1000000)) : okP ps = false := by
  unfold okP
  rw [List.all_eq_false]
  refine ⟨ps[k], List.getElem_mem hk, ?_⟩
  rw [List.getD_eq_getElem?_getD, List.getElem?_eq_getElem hk] at h
  simpa using h
theorem OkP.next {ps : List Int} {k : Nat} (h : OkP ps k) (hk : 0 ≤ ps.getD k 0 ∧ ps.getD k 0 ≤ 1000000) : OkP ps (k + 1) := fun j hj hl => by
  rcases Nat.lt_or_ge j k with h1 | h1
  · exact h j h1 hl
  · obtain rfl : j = k := by omega
    exact hk
theorem metaB_nil {vs : List (Int × Int)} (h : vs.length = 0) : metaB vs = false := by
  have : vs = [] := List.eq_nil_of_length_eq_zero h
  subst this
  rfl
theorem metaB_first {c : Int} {vs : List (Int × Int)} {x y : Int} (h : vldB c vs = true) (hg : vs[0]? = some (x, y)) : metaB vs = decide (x < 0) := by
  unfold metaB
  rw [Bool.eq_iff_iff, List.any_eq_true, decide_eq_true_eq]
  constructor
  · rintro ⟨p, hp, h1⟩
    simp only [decide_eq_true_eq] at h1
    obtain ⟨j, hj, rfl⟩ := List.mem_iff_getElem.1 hp
    rcases j with _ | j
    · rw [List.getElem?_eq_getElem hj] at hg
      cases hg' : vs[0]
      rw [hg'] at hg h1
      cases hg
      exact h1
    · have := asc_of (vldB_parts h).2 0 (j + 1) x y vs[j + 1].1 vs[j + 1].2 (by omega) hg (List.getElem?_eq_getElem hj)
      omega
  · exact fun h1 => ⟨(x, y), List.mem_of_getElem? hg, by simpa using h1⟩
theorem in_scope {c : Int} {vs : List (Int × Int)} {n : Int} (h : vldB c vs = true) (hm : metaB vs = false) (hp : parI c vs ≤ n) : ∀ p ∈ vs, 0 ≤ p.1 ∧ p.1 < n := by
  intro p hp1
  have h0 : 0 ≤ p.1 := by
    have := (List.any_eq_false.1 hm) p hp1
    simp only [decide_eq_true_eq] at this
    omega
  refine ⟨h0, ?_⟩
  obtain ⟨j, hj, rfl⟩ := List.mem_iff_getElem.1 hp1
  have hl : vs.length - 1 < vs.length := by omega
  have hg : vs[vs.length - 1]? = some (vs[vs.length - 1].1, vs[vs.length - 1].2) := List.getElem?_eq_getElem hl
  rw [parI_yes h hg] at hp
  rcases Nat.lt_or_ge j (vs.length - 1) with h1 | h1
  · have := asc_of (vldB_parts h).2 j (vs.length - 1) vs[j].1 vs[j].2 _ _ h1 (List.getElem?_eq_getElem hj) hg
    omega
  · obtain rfl : j = vs.length - 1 := by omega
    omega
theorem evalR_3 {ps : List Int} {c : Int} {vs : List (Int × Int)} (h : vldB c vs = false) : evalR ps c vs = (0, 3) := by simp [evalR, h]
theorem evalR_2 {ps : List Int} {c : Int} {vs : List (Int × Int)} (h : vldB c vs = true) (h2 : okP ps = false) : evalR ps c vs = (0, 2) := by simp [evalR, h, h2]
theorem evalR_23 {ps : List Int} {c : Int} {vs : List (Int × Int)} (h : vldB c vs = true) (h2 : okP ps = true) (h3 : metaB vs = true) : evalR ps c vs = (0, 23) := by simp [evalR, h, h2, h3]
theorem evalR_24 {ps : List Int} {c : Int} {vs : List (Int × Int)} (h : vldB c vs = true) (h2 : okP ps = true) (h3 : metaB vs = false) (h4 : (ps.length : Int) < parI c vs) : evalR ps c vs = (0, 24) := by simp [evalR, h, h2, h3, h4]
theorem evalR_0 {ps : List Int} {c : Int} {vs : List (Int × Int)} (h : vldB c vs = true) (h2 : okP ps = true) (h3 : metaB vs = false) (h4 : ¬ (ps.length : Int) < parI c vs) : evalR ps c vs = (evL ps vs c, 0) := by simp [evalR, h, h2, h3, h4]
theorem ret_two {k l : IntKind} {a b : Int} {r : Int × Int} (h : r = (a, b)) : Ending.returned (.tuple #[.int k a, .int l b]) = .returned (.tuple #[.int k r.1, .int l r.2]) := by rw [h]

set_option maxRecDepth 100000 in
set_option maxHeartbeats 4000000 in
theorem eval_any (c : Int) (A : Option Addr) (cap : Nat) (vs : List (Int × Int)) (P : Option Addr) (capp : Nat) (ps : List Int) (B : Nat) (w : World) (hv : VA w B A vs) (hi : IA w B P ps) (hB : B ≤ w.heap.size) :
    Calls Tryz.prog 33 #[.agg #[.int .i64 c, .slice A vs.length cap], .slice P ps.length capp] w fun e w' => e = .returned (.tuple #[.int .i64 (evalR ps c vs).1, .int .i64 (evalR ps c vs).2]) ∧ Below w.heap.size w w' := by
  have hlen := hv.len
  have hlen2 := hi.len
  go_enter Tryz.func33, Tryz.ntmps33
  go_wp2_with fail
  refine (valid_any c A cap vs B _ (hv.alloc hB _) (by simp; omega)).mono ?_
  rintro e w1 ⟨rfl, hb1⟩
  have hs1 : w.heap.size < w1.heap.size := by have := hb1.size; simp at this; omega
  have l0 : w1.cell? ⟨w.heap.size, 0, none⟩ = some (.int .i64 c) := (hb1.cell (p := ⟨w.heap.size, 0, none⟩) (by simp)).trans (by go_simp)
  have l1 : w1.cell? ⟨w.heap.size, 1, none⟩ = some (.slice A vs.length cap) := (hb1.cell (p := ⟨w.heap.size, 1, none⟩) (by simp)).trans (by go_simp)
  have hf1 : Below w.heap.size w w1 := ((Below.refl _ _).alloc (Nat.le_refl _) _).trans (hb1.mono (by simp))
  clear hb1
  rcases hvd : vldB c vs with _ | _
  · have HV := Lib.hid (evalR_3 (ps := ps) hvd)
    clear hvd
    go_wp2
    exact bodyPost_ret (v := .tuple #[.int .i64 _, .int .i64 _]) (by simp [results, Tryz.results33, go_sem]) rfl ⟨ret_two HV.out, hf1⟩
  · have HD := Lib.hid hvd
    have HO := Lib.hid (vld_le hvd).2
    clear hvd
    have HF1 := Lib.hid hf1
    have hiw := hi.below hf1 hB
    have hvw := hv.below hf1 hB
    clear hf1
    go_wp2_with fail
    go_loopw [16] (fun i wr => ∃ k : Nat, k ≤ ps.length ∧ i = .int .i64 k ∧ OkP ps k ∧ wr = w1) (fun i _ => ps.length - (intOf i).toNat)
    case atStart => exact ⟨0, Nat.zero_le _, rfl, fun j h _ => absurd h (by omega), rfl⟩
    case round =>
      obtain ⟨k, hk, rfl, hok, rfl⟩ := hrel
      have HK := Lib.hid hok
      clear hok
      by_cases hlt : k < ps.length
      · obtain ⟨pb, poff, rfl, hpb, hpc⟩ := hiw.at_ hlt
        by_cases hin : 0 ≤ ps.getD k 0 ∧ ps.getD k 0 ≤ 1000000
        · have HIN := Lib.hid (HK.out.next hin)
          generalize ps.getD k 0 = pv at hpc hin
          obtain ⟨hin1, hin2⟩ := hin
          go_wp2_with (go_at_call 48; refine (inRange_yes _ _ _ _ hin1 hin2).mono ?_; rintro e w' ⟨rfl, rfl⟩)
          go_roundw
          case rel => exact ⟨k + 1, by omega, by go_num, HIN.out, by first | rfl | trivial⟩
          case measure => simp [intOf]; omega
        · have HV := Lib.hid (evalR_2 HD.out (okP_no hlt hin))
          generalize ps.getD k 0 = pv at hpc hin
          go_wp2_with (go_at_call 48; refine (inRange_no _ _ _ _ hin).mono ?_; rintro e w' ⟨rfl, rfl⟩)
          exact bodyPost_ret (v := .tuple #[.int .i64 _, .int .i64 _]) (by simp [results, Tryz.results33, go_sem]) rfl ⟨ret_two HV.out, HF1.out⟩
      · obtain rfl : k = ps.length := by omega
        have HP := Lib.hid (okP_all HK.out)
        clear HK
        go_upto_region 9 with fail
        go_cut [35] from 24 to 35 (fun s35 wx => s35 = .bool (metaB vs) ∧ wx = wr)
        case first =>
          by_cases hn : vs.length = 0
          · obtain rfl : vs = [] := List.eq_nil_of_length_eq_zero hn
            have HM := Lib.hid (show metaB [] = false from rfl)
            clear hn
            go_wp2_with fail
            go_meet
            exact ⟨congrArg Value.bool HM.out.symm, rfl⟩
          · obtain ⟨b, off, x, y, rfl, hb, hg, hc0, hc1⟩ := hvw.at_ (k := 0) (by omega)
            have HM := Lib.hid (metaB_first HD.out hg)
            have hn1 : (0 : Int) < (vs.length : Int) := by omega
            have hn2 : 0 < vs.length := by omega
            have d1 : decide ((0 : Int) < (vs.length : Int)) = true := decide_eq_true hn1
            have d2 : decide (0 < vs.length) = true := decide_eq_true hn2
            simp only [Nat.zero_mul, Nat.add_zero] at hc0
            clear hg hc1
            go_wp2_with fail
            go_meet
            exact ⟨congrArg Value.bool HM.out.symm, rfl⟩
        case rest =>
          obtain ⟨rfl, rfl⟩ := hcut
          rcases hm : metaB vs with _ | _
          · have HM := Lib.hid hm
            clear hm
            go_wp2_with fail
            refine (params_any c A cap vs B _ hvw (by omega)).mono ?_
            rintro e w2 ⟨rfl, hb2⟩
            have l02 := (hb2.cell (p := ⟨w.heap.size, 0, none⟩) hs1).trans l0
            have l12 := (hb2.cell (p := ⟨w.heap.size, 1, none⟩) hs1).trans l1
            have hf2 : Below w.heap.size w w2 := HF1.out.trans (hb2.mono (by omega))
            have hs2 : w.heap.size < w2.heap.size := by have := hb2.size; omega
            have HF2 := Lib.hid hf2
            clear hf2 hb2 l0 l1 HF1
            by_cases h24 : (ps.length : Int) < parI c vs
            · have HV := Lib.hid (evalR_24 HD.out HP.out HM.out h24)
              generalize parI c vs = q at *
              go_wp2
              exact bodyPost_ret (v := .tuple #[.int .i64 _, .int .i64 _]) (by simp [results, Tryz.results33, go_sem]) rfl ⟨ret_two HV.out, HF2.out⟩
            · have HV := Lib.hid (evalR_0 HD.out HP.out HM.out h24)
              have HSC := Lib.hid (in_scope HD.out HM.out (n := (ps.length : Int)) (by omega))
              have d4 : decide ((ps.length : Int) < parI c vs) = false := by simp; omega
              clear h24
              generalize parI c vs = q at *
              have HPS := Lib.hid (show ∀ k, 0 ≤ ps.getD k 0 ∧ ps.getD k 0 ≤ 1000000 from fun k => by
                by_cases hk : k < ps.length
                · have := (List.all_eq_true.1 HP.out) _ (List.getElem_mem hk)
                  rw [List.getD_eq_getElem?_getD, List.getElem?_eq_getElem hk]
                  simpa using this
                · rw [List.getD_eq_getElem?_getD, List.getElem?_eq_none (by omega)]
                  simp)
              go_wp2_with fail
              clear d4
              go_loopw [8, 46] (fun n i wr => ∃ (k : Nat) (m : Int), k ≤ vs.length ∧ n = .int .i64 m ∧ i = .int .i64 k ∧ evL ps (vs.drop k) m = evL ps vs c ∧ Below w.heap.size w wr) (fun _ i _ => vs.length - (intOf i).toNat)
              case atStart => exact ⟨0, c, Nat.zero_le _, rfl, rfl, rfl, HF2.out⟩
              case round =>
                obtain ⟨k, m, hk, rfl, rfl, hev, hbw⟩ := hrel
                have HE := Lib.hid hev
                clear hev
                have hsz : w.heap.size ≤ wr.heap.size := hbw.size
                by_cases hlt : k < vs.length
                · obtain ⟨b, off, x, y, hA, hb, hg, hc0, hc1⟩ := (hv.below hbw hB).at_ hlt
                  have hy := HO.out (x, y) (List.mem_of_getElem? hg)
                  have hin := HSC.out (x, y) (List.mem_of_getElem? hg)
                  have HDR := Lib.hid (evL_drop (ps := ps) (n := m) hg)
                  clear hg
                  subst hA
                  obtain ⟨hy1, hy2⟩ := hy
                  simp only at hy1 hy2 hin
                  have HIN := Lib.hid hin
                  obtain ⟨hx1, hx2⟩ := hin
                  obtain ⟨xn, rfl⟩ : ∃ xn : Nat, x = (xn : Int) := ⟨x.toNat, by omega⟩
                  have hxn : xn < ps.length := by omega
                  obtain ⟨pb, poff, rfl, hpb, hpc⟩ := (hi.below hbw hB).at_ hxn
                  have hp12 := HPS.out xn
                  generalize hpv : ps.getD xn 0 = pv at *
                  obtain ⟨hp1, hp2⟩ := hp12
                  have HPV := Lib.hid hpv
                  clear hpv
                  have hpa : ∀ o, (wr.alloc o).cell? ⟨pb, poff + xn, none⟩ = some (.int .i64 pv) := fun o => (World.cell?_alloc_lt wr o ⟨pb, poff + xn, none⟩ (by show pb < wr.heap.size; omega)).trans hpc
                  go_wp2
                  go_quiet (fail)
                  go_wp2
                  go_roundw
                  case rel => exact ⟨k + 1, max m (pv + y), by omega, congrArg (Value.int .i64) (by first | rfl | (split <;> omega)), by go_num, by rw [← HE.out, HDR.out, if_pos HIN.out, Int.toNat_natCast, HPV.out], hbw.trans (Below.drewN' ((Below.refl _ _).alloc (by omega) _) _)⟩
                  case measure => simp [intOf]; omega
                · obtain rfl : k = vs.length := by omega
                  go_wp2
                  exact bodyPost_ret (v := .tuple #[.int .i64 m, .int .i64 0]) (by simp [results, Tryz.results33, go_sem]) rfl ⟨ret_two (by rw [HV.out, ← HE.out]; simp [evL]), hbw⟩
          · have HV := Lib.hid (evalR_23 HD.out HP.out hm)
            clear hm
            go_wp2
            exact bodyPost_ret (v := .tuple #[.int .i64 _, .int .i64 _]) (by simp [results, Tryz.results33, go_sem]) rfl ⟨ret_two HV.out, HF1.out⟩
end Go.Proofs.YtpkheelcfkiacaaGreatDoor

namespace Go.Proofs.YtpkheelcfkiacaaGreatDoor
open Go.RowKit

theorem metL_len {c : Int} {vs : List (Int × Int)} (h : vldB c vs = true) : metaB vs = decide (0 < (metL c vs).length) := by
  rw [metL_yes h, Bool.eq_iff_iff, decide_eq_true_eq]
  unfold metaB metK
  rw [List.length_map, List.any_eq_true]
  constructor
  · rintro ⟨p, hp, h1⟩
    exact List.length_pos_of_mem (List.mem_filter.2 ⟨by simpa using hp, h1⟩)
  · intro h1
    obtain ⟨p, hp⟩ := List.exists_mem_of_length_pos h1
    obtain ⟨h2, h3⟩ := List.mem_filter.1 hp
    exact ⟨p, by simpa using h2, h3⟩

set_option maxRecDepth 100000 in
set_option maxHeartbeats 4000000 in
theorem reval_any (c : Int) (A : Option Addr) (cap : Nat) (vs : List (Int × Int)) (P : Option Addr) (capp : Nat) (ps : List Int) (B : Nat) (w : World) (hv : VA w B A vs) (hi : IA w B P ps) (hB : B ≤ w.heap.size) :
    Calls Tryz.prog 34 #[.agg #[.int .i64 c, .slice A vs.length cap], .slice P ps.length capp] w fun e w' => e = .returned (.tuple #[.int .i64 (evalR ps c vs).1, .int .i64 (evalR ps c vs).2]) ∧ Below w.heap.size w w' := by
  have hlen := hv.len
  have hlen2 := hi.len
  go_enter Tryz.func34, Tryz.ntmps34
  go_wp2_with fail
  refine (rvalid_any c A cap vs B _ (hv.alloc hB _) (by simp; omega)).mono ?_
  rintro e w1 ⟨rfl, hb1⟩
  have hs1 : w.heap.size < w1.heap.size := by have := hb1.size; simp at this; omega
  have l0 : w1.cell? ⟨w.heap.size, 0, none⟩ = some (.int .i64 c) := (hb1.cell (p := ⟨w.heap.size, 0, none⟩) (by simp)).trans (by go_simp)
  have l1 : w1.cell? ⟨w.heap.size, 1, none⟩ = some (.slice A vs.length cap) := (hb1.cell (p := ⟨w.heap.size, 1, none⟩) (by simp)).trans (by go_simp)
  have hf1 : Below w.heap.size w w1 := ((Below.refl _ _).alloc (Nat.le_refl _) _).trans (hb1.mono (by simp))
  clear hb1
  rcases hvd : vldB c vs with _ | _
  · have HV := Lib.hid (evalR_3 (ps := ps) hvd)
    clear hvd
    go_wp2
    exact bodyPost_ret (v := .tuple #[.int .i64 _, .int .i64 _]) (by simp [results, Tryz.results34, go_sem]) rfl ⟨ret_two HV.out, hf1⟩
  · have HD := Lib.hid hvd
    have HO := Lib.hid (vld_le hvd).2
    clear hvd
    have HF1 := Lib.hid hf1
    have hiw := hi.below hf1 hB
    have hvw := hv.below hf1 hB
    clear hf1
    go_wp2_with fail
    go_loopw [6] (fun i wr => ∃ k : Nat, k ≤ ps.length ∧ i = .int .i64 k ∧ OkP ps k ∧ wr = w1) (fun i _ => ps.length - (intOf i).toNat)
    case atStart => exact ⟨0, Nat.zero_le _, rfl, fun j h _ => absurd h (by omega), rfl⟩
    case round =>
      obtain ⟨k, hk, rfl, hok, rfl⟩ := hrel
      have HK := Lib.hid hok
      clear hok
      by_cases hlt : k < ps.length
      · obtain ⟨pb, poff, rfl, hpb, hpc⟩ := hiw.at_ hlt
        by_cases hin : 0 ≤ ps.getD k 0 ∧ ps.getD k 0 ≤ 1000000
        · have HIN := Lib.hid (HK.out.next hin)
          generalize ps.getD k 0 = pv at hpc hin
          obtain ⟨hin1, hin2⟩ := hin
          have d1 : decide (pv < 0) = false := by simp; omega
          have d2 : decide (1000000 < pv) = false := by simp; omega
          go_wp2_with fail
          go_roundw
          case rel => exact ⟨k + 1, by omega, by go_num, HIN.out, by first | rfl | trivial⟩
          case measure => simp [intOf]; omega
        · have HV := Lib.hid (evalR_2 HD.out (okP_no hlt hin))
          generalize ps.getD k 0 = pv at hpc hin
          have hcases : pv < 0 ∨ (decide (pv < 0) = false ∧ 1000000 < pv) := by
            simp only [decide_eq_false_iff_not]; omega
          clear hin
          rcases hcases with h1 | ⟨h1, h2⟩
          all_goals
            go_wp2
            exact bodyPost_ret (v := .tuple #[.int .i64 _, .int .i64 _]) (by simp [results, Tryz.results34, go_sem]) rfl ⟨ret_two HV.out, HF1.out⟩
      · obtain rfl : k = ps.length := by omega
        have HP := Lib.hid (okP_all HK.out)
        clear HK
        go_wp2_with fail
        refine (rmetas_any c A cap vs B _ hvw (by omega)).mono ?_
        rintro e w2 ⟨A9, c9, rfl, _, hb2⟩
        have l02 := (hb2.cell (p := ⟨w.heap.size, 0, none⟩) hs1).trans l0
        have l12 := (hb2.cell (p := ⟨w.heap.size, 1, none⟩) hs1).trans l1
        have hf2 : Below w.heap.size w w2 := HF1.out.trans (hb2.mono (by omega))
        have hs2 : w.heap.size < w2.heap.size := by have := hb2.size; omega
        have hvw2 := hv.below hf2 hB
        have HF2 := Lib.hid hf2
        clear hf2 hb2 l0 l1 HF1 hvw hiw hs1
        have HML := Lib.hid (metL_len HD.out)
        rcases hm : metaB vs with _ | _
        · have HM := Lib.hid hm
          have d3 : decide ((0 : Int) < ((metL c vs).length : Int)) = false := by
            have := HML.out
            rw [hm] at this
            have := of_decide_eq_false this.symm
            exact decide_eq_false (by omega)
          have d3n : decide (0 < (metL c vs).length) = false := by
            have := HML.out
            rw [hm] at this
            exact this.symm
          clear hm
          generalize (metL c vs).length = ml at *
          go_wp2_with fail
          refine (rparams_any c A cap vs B _ hvw2 (by omega)).mono ?_
          rintro e w3 ⟨rfl, hb3⟩
          have l03 := (hb3.cell (p := ⟨w.heap.size, 0, none⟩) hs2).trans l02
          have l13 := (hb3.cell (p := ⟨w.heap.size, 1, none⟩) hs2).trans l12
          have hf3 : Below w.heap.size w w3 := HF2.out.trans (hb3.mono (by omega))
          have hs3 : w.heap.size < w3.heap.size := by have := hb3.size; omega
          have HF3 := Lib.hid hf3
          clear hf3 hb3 l02 l12 HF2 hvw2 hs2 d3 d3n
          by_cases h24 : (ps.length : Int) < parI c vs
          · have HV := Lib.hid (evalR_24 HD.out HP.out HM.out h24)
            generalize parI c vs = q at *
            go_wp2
            exact bodyPost_ret (v := .tuple #[.int .i64 _, .int .i64 _]) (by simp [results, Tryz.results34, go_sem]) rfl ⟨ret_two HV.out, HF3.out⟩
          · have HV := Lib.hid (evalR_0 HD.out HP.out HM.out h24)
            have HSC := Lib.hid (in_scope HD.out HM.out (n := (ps.length : Int)) (by omega))
            have d4 : decide ((ps.length : Int) < parI c vs) = false := by simp; omega
            clear h24
            generalize parI c vs = q at *
            have HPS := Lib.hid (show ∀ k, 0 ≤ ps.getD k 0 ∧ ps.getD k 0 ≤ 1000000 from fun k => by
              by_cases hk : k < ps.length
              · have := (List.all_eq_true.1 HP.out) _ (List.getElem_mem hk)
                rw [List.getD_eq_getElem?_getD, List.getElem?_eq_getElem hk]
                simpa using this
              · rw [List.getD_eq_getElem?_getD, List.getElem?_eq_none (by omega)]
                simp)
            go_wp2_with fail
            clear d4
            go_loopw [7, 8] (fun n i wr => ∃ (k : Nat) (m : Int), k ≤ vs.length ∧ n = .int .i64 m ∧ i = .int .i64 k ∧ evL ps (vs.drop k) m = evL ps vs c ∧ Below w3.heap.size w3 wr) (fun _ i _ => vs.length - (intOf i).toNat)
            case atStart => exact ⟨0, c, Nat.zero_le _, rfl, rfl, rfl, Below.refl _ _⟩
            case round =>
              obtain ⟨k, m, hk, rfl, rfl, hev, hwr⟩ := hrel
              have HE := Lib.hid hev
              clear hev
              have hbw : Below w.heap.size w wr := HF3.out.trans (hwr.mono (by omega))
              have l0r : wr.cell? ⟨w.heap.size, 0, none⟩ = some (.int .i64 c) := (hwr.cell (p := ⟨w.heap.size, 0, none⟩) hs3).trans l03
              have l1r : wr.cell? ⟨w.heap.size, 1, none⟩ = some (.slice A vs.length cap) := (hwr.cell (p := ⟨w.heap.size, 1, none⟩) hs3).trans l13
              by_cases hlt : k < vs.length
              · obtain ⟨b, off, x, y, hA, hb, hg, hc0, hc1⟩ := (hv.below hbw hB).at_ hlt
                have hy := HO.out (x, y) (List.mem_of_getElem? hg)
                have hin := HSC.out (x, y) (List.mem_of_getElem? hg)
                have HDR := Lib.hid (evL_drop (ps := ps) (n := m) hg)
                clear hg
                subst hA
                obtain ⟨hy1, hy2⟩ := hy
                simp only at hy1 hy2 hin
                have HIN := Lib.hid hin
                obtain ⟨hx1, hx2⟩ := hin
                obtain ⟨xn, rfl⟩ : ∃ xn : Nat, x = (xn : Int) := ⟨x.toNat, by omega⟩
                have hxn : xn < ps.length := by omega
                obtain ⟨pb, poff, rfl, hpb, hpc⟩ := (hi.below hbw hB).at_ hxn
                have hp12 := HPS.out xn
                generalize hpv : ps.getD xn 0 = pv at *
                obtain ⟨hp1, hp2⟩ := hp12
                have HPV := Lib.hid hpv
                have HWR := Lib.hid hwr
                clear hpv hwr
                go_wp2
                go_quiet (fail)
                go_wp2
                go_roundw
                case rel => exact ⟨k + 1, max m (pv + y), by omega, congrArg (Value.int .i64) (by first | rfl | (split <;> omega)), by go_num, by rw [← HE.out, HDR.out, if_pos HIN.out, Int.toNat_natCast, HPV.out], Below.drewN' HWR.out _⟩
                case measure => simp [intOf]; omega
              · obtain rfl : k = vs.length := by omega
                have HBW := Lib.hid hbw
                clear hwr hbw
                go_wp2
                exact bodyPost_ret (v := .tuple #[.int .i64 m, .int .i64 0]) (by simp [results, Tryz.results34, go_sem]) rfl ⟨ret_two (by rw [HV.out, ← HE.out]; simp [evL]), HBW.out⟩
        · have HV := Lib.hid (evalR_23 HD.out HP.out hm)
          have d3 : (0 : Int) < ((metL c vs).length : Int) := by
            have := HML.out
            rw [hm] at this
            have := of_decide_eq_true this.symm
            omega
          clear hm
          generalize (metL c vs).length = ml at *
          go_wp2
          exact bodyPost_ret (v := .tuple #[.int .i64 _, .int .i64 _]) (by simp [results, Tryz.results34, go_sem]) rfl ⟨ret_two HV.out, HF2.out⟩
end Go.Proofs.YtpkheelcfkiacaaGreatDoor

namespace Go.Proofs.YtpkheelcfkiacaaGreatDoor
open Go.RowKit

set_option maxRecDepth 100000 in
set_option maxHeartbeats 1000000 in
theorem equalI_any (A1 : Option Addr) (cap1 : Nat) (A2 : Option Addr) (cap2 : Nat) (ms : List Int) (B : Nat) (w : World) (h1 : IA w B A1 ms) (h2 : IA w B A2 ms) (hB : B ≤ w.heap.size) :
    Calls Tryz.prog 37 #[.slice A1 ms.length cap1, .slice A2 ms.length cap2] w fun e w' => e = .returned (.bool true) ∧ Below w.heap.size w w' := by
  have hlen1 := h1.len
  have hq : ((ms.length : Int) != (ms.length : Int)) = false := by simp
  go_enter Tryz.func37, Tryz.ntmps37
  go_wp2
  go_loopw [13] (fun i wr => ∃ k : Nat, k ≤ ms.length ∧ i = .int .i64 k ∧ Below w.heap.size w wr) (fun i _ => ms.length - (intOf i).toNat)
  case atStart => exact ⟨0, Nat.zero_le _, rfl, Below.refl _ _⟩
  case round =>
    obtain ⟨k, hk, rfl, hfr⟩ := hrel
    by_cases hlt : k < ms.length
    · obtain ⟨b1, off1, rfl, hb1, hc0⟩ := (h1.below hfr hB).at_ hlt
      obtain ⟨b2, off2, rfl, hb2, hd0⟩ := (h2.below hfr hB).at_ hlt
      generalize ms.getD k 0 = x at *
      have hx : (x != x) = false := by simp
      go_wp2
      go_quiet (fail)
      go_wp2
      go_roundw
      case rel => exact ⟨k + 1, by omega, by go_num, Below.drewN' hfr _⟩
      case measure => simp [intOf]; omega
    · obtain rfl : k = ms.length := by omega
      go_wp2
      go_ret
      exact ⟨rfl, hfr⟩
end Go.Proofs.YtpkheelcfkiacaaGreatDoor

namespace Go.Proofs.YtpkheelcfkiacaaGreatDoor
open Go.RowKit Go.Shelf
attribute [local go_sem] Oper.semAt_some

/-- The metavariables among the variables at these places. -/
def metP (vs : List (Int × Int)) (pre : List (Fin vs.length)) : List Int := ((pre.map fun i => vs[i]).filter fun p => decide (p.1 < 0)).map fun p => -1 - p.1
theorem metP_yes {vs : List (Int × Int)} {pre : List (Fin vs.length)} {x : Fin vs.length} (h : vs[x].1 < 0) : metP vs (pre ++ [x]) = metP vs pre ++ [-1 - vs[x].1] := by
  unfold metP
  rw [List.map_append, List.filter_append, List.map_append]
  congr 1
  rw [List.map_cons, List.map_nil, List.filter_cons_of_pos (by simpa using h)]
  rfl
theorem metP_no {vs : List (Int × Int)} {pre : List (Fin vs.length)} {x : Fin vs.length} (h : ¬ vs[x].1 < 0) : metP vs (pre ++ [x]) = metP vs pre := by
  unfold metP
  rw [List.map_append, List.filter_append, List.map_append, List.map_cons, List.map_nil, List.filter_cons_of_neg (by simpa using h)]
  simp
theorem metP_end (vs : List (Int × Int)) : metP vs (bwF vs.length vs.length (Nat.le_refl _)) = metK vs 0 := by
  unfold metP metK
  rw [bwF_get, List.take_length, List.drop_zero]
theorem metP_len (vs : List (Int × Int)) (pre : List (Fin vs.length)) : (metP vs pre).length ≤ pre.length := by
  unfold metP
  rw [List.length_map]
  refine Nat.le_trans (List.length_filter_le _ _) ?_
  simp

/-- Block tb is a cell that holds a slice of integers of the call's own. -/
structure MX (w : World) (tb : Nat) (ms : List Int) (v : Value) : Prop where
  cell : w.heap[tb]? = some (.cells #[v] 46 (0, 0))
  own : Own1 w (tb + 1) v ms
namespace MX
variable {w w' : World} {tb : Nat} {ms : List Int} {v : Value}
theorem lt (h : MX w tb ms v) : tb < w.heap.size := (Array.getElem?_eq_some_iff.1 h.cell).1
theorem c0 (h : MX w tb ms v) : w.cell? ⟨tb, 0, none⟩ = some v := by simp [World.cell?, h.cell]
theorem fr (h : MX w tb ms v) (o : Nat) : w.frozen? ⟨tb, o, none⟩ = false := by simp [World.frozen?, h.cell]
theorem alloc (h : MX w tb ms v) (o : Obj) : MX (w.alloc o) tb ms v := ⟨(Below.heap_alloc _ _ _ h.lt).trans h.cell, World.ownsRow.alloc h.own o⟩
theorem grown (h : MX w tb ms v) (hg : w.grownBy w' v.ownBlock) : w'.cell? ⟨tb, 0, none⟩ = some v ∧ (∀ o, w'.frozen? ⟨tb, o, none⟩ = false) := by
  have hne : some tb ≠ v.ownBlock := fun e => by have := World.ownsRow.lt h.own tb e.symm; omega
  have e1 : w'.heap[tb]? = some (.cells #[v] 46 (0, 0)) := (hg.block tb h.lt hne).trans h.cell
  exact ⟨by simp [World.cell?, e1], fun o => by simp [World.frozen?, e1]⟩
theorem push (h : MX w tb ms v) {v' : Value} {m : Int} (hg : w.grownBy w' v.ownBlock) (ho : w'.ownsRow (tb + 1) 3 1 v' (ms.length + 1) (ms.map (Value.int .i64) ++ [.int .i64 m])) : MX (w'.setCell ⟨tb, 0, none⟩ v') tb (ms ++ [m]) v' := by
  have hne : some tb ≠ v.ownBlock := fun e => by have := World.ownsRow.lt h.own tb e.symm; omega
  have e1 : w'.heap[tb]? = some (.cells #[v] 46 (0, 0)) := (hg.block tb h.lt hne).trans h.cell
  refine ⟨by rw [heap_setCell_same w' _ 0 _ _ v' e1]; rfl, ?_⟩
  unfold Own1
  rw [List.length_append, List.map_append]
  refine World.ownsRow.kept ho (row := some tb) ⟨rfl, rfl, rfl, by simp [World.setCell], fun i _ hne => Below.heap_setCell w' ⟨tb, 0, none⟩ _ i (fun e => hne (by rw [e]))⟩ ?_
  cases hob : v'.ownBlock with
  | none => exact .inl rfl
  | some j => exact .inr (by have := World.ownsRow.lt ho j hob; intro e; cases e; omega)
theorem start (w : World) : MX (w.alloc (.cells #[.slice none 0 0] 46)) w.heap.size [] (.slice none 0 0) :=
  ⟨by show (w.heap.push _)[w.heap.size]? = _; simp, World.ownsRow_nil _ _ _ _⟩
theorem ownFrom {β : Type} (B tb : Nat) (F : β → List Int) : OwnFrom B (fun (s : β) W => ∃ v, MX W tb (F s) v) := by
  intro s W W' row hs hg hr
  obtain ⟨v, h⟩ := hs
  obtain ⟨v', b, o, _⟩ := (Own.from (holdsRow_own (β := β) (tb + 1) tb 46 3 1 (fun s => (F s).length) (fun s => (F s).map (Value.int .i64)) (fun _ _ => True)) B) s W W' row ⟨v, h.cell, h.own, trivial⟩ hg hr
  exact ⟨v', b, o⟩
/-- What one round of the loop leaves. -/
theorem round {W w5 : World} {tb Bs : Nat} (B : Nat) {ms : List Int} {v val u : Value} {m : Int} (h : MX W tb ms v) (hs : Boxed W Bs 22 u)
    (hg : (W.alloc (.cells #[.int .i64 m] 3)).grownBy w5 v.ownBlock) (ho : w5.ownsRow (tb + 1) 3 1 val (ms.length + 1) (ms.map (Value.int .i64) ++ [.int .i64 m])) :
    KeepsFrom B W (w5.setCell ⟨tb, 0, none⟩ val) ∧ KAB tb Bs Bs W (w5.setCell ⟨tb, 0, none⟩ val) ∧ MX (w5.setCell ⟨tb, 0, none⟩ val) tb (ms ++ [m]) val := by
  have hn2 := hs.not_row (by decide) h.own
  have hl := h.lt
  have hl2 := hs.lt
  have hz5 : W.heap.size + 1 ≤ w5.heap.size := by have := hg.size; simpa using this
  have hbase : ∀ j, v.ownBlock = some j → tb + 1 ≤ j := fun j hj => (World.ownsRow.lt h.own j hj).1
  refine ⟨KeepsOthers.from ((KeepsOthers.alloc _ _).trans ((KeepsOthers.of_grownBy hg fun j o ej hj => ?_).trans (KeepsOthers.setCell _ _ _))) B, ?_, (h.alloc _).push hg ho⟩
  · rcases (h.alloc (.cells #[.int .i64 m] 3)).own.2 with ⟨rfl, _⟩ | ⟨g, cap, cur, rfl, _, hgb, _⟩
    · simp [Value.ownBlock] at ej
    · obtain rfl : g = j := by simpa [Value.ownBlock] using ej
      rw [hgb] at hj
      cases hj
      rfl
  · refine (((KAB.grown (World.grownBy_alloc W _ none) (by omega) (by omega) (by omega) (fun r e => by cases e))).trans (KAB.grown hg (by simp; omega) (by simp; omega) (by simp; omega) (fun r e => ⟨by have := hbase r e; omega, fun e' => hn2 (by rw [e, e']), fun e' => hn2 (by rw [e, e'])⟩))).trans (KAB.grown (grownBy_setCell' w5 tb val) (by omega) (by omega) (by omega) (fun r e => by
      cases e
      refine ⟨Nat.le_refl _, fun e' => ?_, fun e' => ?_⟩ <;>
      · subst e'
        have := h.cell.symm.trans hs
        cases this))
end MX

theorem IA.putObj {w : World} {B : Nat} {P : Option Addr} {ps : List Int} (h : IA w B P ps) {l : Nat} {o : Obj} (hl : w.heap[l]? = some o) (ho : o.isCells = false) (o' : Obj) : IA (w.putObj l o') B P ps :=
  ⟨h.1, fun hn => by
    obtain ⟨b, off, e, hb, hc⟩ := h.2 hn
    have hg : ps[0]? = some ps[0] := List.getElem?_eq_getElem hn
    have hne : b ≠ l := by
      rintro rfl
      obtain ⟨o2, ho2, hcl⟩ := cells_of_cell (hc 0 _ hg)
      rw [hl] at ho2
      cases ho2
      rw [ho] at hcl
      cases hcl
    exact ⟨b, off, e, hb, fun j p hj => (World.cell?_of_block (a := ⟨b, off + j, none⟩) (World.putObj_heap_other hne)).trans (hc j p hj)⟩⟩

set_option maxRecDepth 100000 in
set_option maxHeartbeats 4000000 in
theorem metas_any (c : Int) (A : Option Addr) (cap : Nat) (vs : List (Int × Int)) (w : World) (hv : VA w w.heap.size A vs) :
    Calls Tryz.prog 38 #[.agg #[.int .i64 c, .slice A vs.length cap]] w (GivesIA (metL c vs) w) := by
  obtain ⟨i0, hi, hz0, hz1, hz2⟩ := info_parts info3
  have hlen := hv.len
  have hb16 := hv.1
  have hv1 := Lib.hid (hv.alloc (Nat.le_refl _) (.cells #[.int .i64 c, .slice A vs.length cap] 24))
  have HV := Lib.hid hv
  clear hv
  rcases hvd : vldB c vs with _ | _
  · have HM := Lib.hid (metL_no hvd)
    have HD := Lib.hid hvd
    clear hvd
    go_enter Tryz.func38, Tryz.ntmps38
    go_wp2_with fail
    refine (valid_any c A cap vs w.heap.size _ hv1.out (by simp)).mono ?_
    rw [HD.out]
    rintro e w1 ⟨rfl, hb1⟩
    have HB := Lib.hid (((Below.refl w.heap.size w).alloc (Nat.le_refl _) _).trans (hb1.mono (by simp)))
    clear hb1
    go_wp2
    go_ret
    exact ⟨none, 0, by rw [HM.out]; rfl, by rw [HM.out]; exact ⟨by simp, fun h => absurd h (by simp)⟩, HB.out⟩
  · have HM := Lib.hid (metL_yes hvd)
    have HIX := Lib.hid (vld_idx hvd)
    have HD := Lib.hid hvd
    clear hvd
    refine (callsIn_wide (n := 6)).1 ?_
    refine callsIn_of_wp_marks Tryz.func38 rfl trivial ?_ rfl
    simp only [Tryz.ntmps38, List.size_toArray, List.length_cons, List.length_nil, Nat.reduceAdd, Nat.reduceSub, Array.replicate_succ, Array.replicate_zero, List.push_toArray, List.append_toArray, List.nil_append, List.cons_append]
    refine wpIn_wide.2 ?_
    generalize hQ0 : bodyPostM _ _ _ _ _ = Q0
    have HQ0 := Lib.hid hQ0
    clear hQ0
    go_wp2_with fail
    refine (valid_any c A cap vs w.heap.size _ hv1.out (by simp)).mono ?_
    rw [HD.out]
    rintro e w1 ⟨rfl, hb1⟩
    obtain ⟨hc1, hf1⟩ := bcell hb1
    have hs1 := hb1.size
    simp only [World.size_alloc] at hs1
    have hl1 : w.heap.size < w1.heap.size := by omega
    have H1 := Lib.hid hb1
    clear hb1
    have hx1 : w1.cell? ⟨w.heap.size, 1, none⟩ = some (.slice A vs.length cap) := (hc1 w.heap.size 1 (by simp)).trans (by simp)
    clear hc1 hf1
    have hT0 := Lib.hid (MX.start w1)
    have hB0 := Lib.hid ((Below.refl w1.heap.size w1).alloc (Nat.le_refl _) (.cells #[.slice none 0 0] 46))
    go_wp2_with fail
    refine (callsIn_wide.1 (backward_in 6 A vs.length cap _)).mono ?_
    rintro e w3 ⟨rfl, hw3⟩
    have bS := Boxed.new (w1.alloc (.cells #[.slice none 0 0] 46)) 22 (.slice A vs.length cap)
    rw [← hw3] at bS
    simp only [World.size_alloc] at bS
    have hT3 : MX w3 w1.heap.size [] (.slice none 0 0) := by rw [hw3]; exact hT0.out.alloc _
    have hB3 : Below w1.heap.size w1 w3 := by rw [hw3]; exact hB0.out.alloc (by simp) _
    have hs3 : w3.heap.size = w1.heap.size + 1 + 1 := by rw [hw3]; simp
    clear hw3
    have HB3 := Lib.hid hB3
    have hv3 : VA w3 w1.heap.size A vs := ((HV.out.below ((((Below.refl _ w).alloc (Nat.le_refl _) _).trans (H1.out.mono (by simp))).trans (hB3.mono (by omega))) (Nat.le_refl _))).more (by omega)
    have HV3 := Lib.hid hv3
    clear hv3
    go_wp2_with fail
    refine (wpIn_wide (n := 6)).1 ?_
    refine wpIn_rangeFunc_ownH rfl (by decide) (gf := 83) (lb := #[.pointer (some ⟨w1.heap.size + 1, 0, none⟩)]) rfl trivial (enters_of Tryz.func83 (by kernel_rfl) rfl)
      (bw_stops 5 (by decide) (w1.heap.size + 1) w1.heap.size A cap vs w3 (by omega) bS.cell (by omega) HV3.out) (fun h k => h.trans k)
      (fun W l o o' hl h _ _ => KAB.grown (grownBy_putObj' W l o') (by have := (Array.getElem?_eq_some_iff.1 h).1; omega) (by have := (Array.getElem?_eq_some_iff.1 h).1; omega) (by have := (Array.getElem?_eq_some_iff.1 h).1; omega) (fun r e => by cases e; omega)) (Below.refl _ _) (fun _ => rfl)
      (fun pre W => (∃ v, MX W w1.heap.size (metP vs pre) v) ∧ KAB w1.heap.size (w1.heap.size + 1) (w1.heap.size + 1) w3 W)
      (fun _ _ _ => False) (OwnFrom.and (MX.ownFrom _ _ (fun pre => metP vs pre)) (fun _ X Y row hs hg hr => hs.trans (KAB.grown hg (by have := hs.size; omega) (by have := hs.size; omega) (by have := hs.size; omega) (fun r e => by have := (hr r e).1; omega)))) (fun _ _ _ _ _ hs _ _ => hs) ⟨⟨_, by simpa [metP] using hT3⟩, KAB.refl _ _ _ _⟩
      (fun x a' W => ∃ Bx, w3.heap.size ≤ Bx ∧ W.heap[Bx]? = some (.cells #[.int .i64 vs[x].1, .int .i64 vs[x].2] 69 (0, 0)) ∧ a' = { tmps := #[.agg #[.int .i64 c, .slice A vs.length cap], .pointer (some ⟨w.heap.size, 0, none⟩), .slice none 0 0, .pointer (some ⟨w1.heap.size, 0, none⟩), undef, .pointer (some ⟨Bx, 0, none⟩), .agg #[.int .i64 c, .slice A vs.length cap], .bool true, .bool false, .pointer (some ⟨w.heap.size, 1, none⟩), .slice A vs.length cap, .func (.func 83) #[] #[.pointer (some ⟨w1.heap.size + 1, 0, none⟩)], .int .i64 (x.val : Int), .agg #[.int .i64 vs[x].1, .int .i64 vs[x].2], undef, undef, undef, undef, undef, undef, undef, undef, undef, undef], defers := [] })
      (fun x a' _ X Y row hs hg hr => by
        obtain ⟨Bx, hle, hc, ha⟩ := hs
        refine ⟨Bx, hle, (hg.block Bx (Array.getElem?_eq_some_iff.1 hc).1 (fun e => ?_)).trans hc, ha⟩
        obtain ⟨_, o, ho, hno⟩ := hr Bx e.symm
        rw [hc] at ho
        cases ho
        cases hno) ?assign ?body ?done ?stop
    case assign =>
      rintro l pre x W K ⟨⟨v2, hT2⟩, hk⟩ hK
      have hks := hk.size
      have hka : KAB w1.heap.size (w1.heap.size + 1) (w1.heap.size + 1) W (W.alloc (.cells #[.int .i64 vs[x].1, .int .i64 vs[x].2] 69)) := KAB.grown (World.grownBy_alloc _ _ none) (by omega) (by omega) (by omega) (fun _ e => by cases e)
      gi_wp2
      exact hK _ _ ((KeepsOthers.alloc _ _).from _) hka ⟨⟨v2, hT2.alloc _⟩, hk.trans hka⟩ ⟨W.heap.size, hks, World.alloc_heap_new _ _, rfl⟩
    case body =>
      rintro l pre x a' W hl ⟨r, hlr⟩ ⟨⟨v2, hT2⟩, hk⟩ ⟨Bx, hBx, hcx, rfl⟩ hlt
      have hks := hk.size
      have hxy := HIX.out vs[x] (List.getElem_mem x.isLt)
      have htl := metP_len vs pre
      by_cases hneg : vs[x].1 < 0
      · have hst := Lib.hid (metP_yes (pre := pre) hneg)
        have HBS := Lib.hid (show Boxed W (w1.heap.size + 1) 22 (.slice A vs.length cap) from hk.a.trans bS)
        have HKT := Lib.hid (And.intro hT2 hk)
        clear hT2 hk
        generalize vs[x].1 = ix at *
        generalize vs[x].2 = pl at *
        generalize hms : metP vs pre = ms at *
        have hcx0 : W.cell? ⟨Bx, 0, none⟩ = some (.int .i64 ix) := by simp [World.cell?, hcx]
        have HLR := Lib.hid hlr
        have q00 := HKT.out.1.c0
        have hlw := HKT.out.1.lt
        have hfr := HKT.out.1.fr
        clear hlr hcx
        obtain ⟨hx1, hx2⟩ := hxy
        gi_wp2_with (gi_at_builtin; refine wpListIn_append_own _ rfl _ _ 46 rfl (w1.heap.size + 1) 3 i0 (.int .i64 0) 1 8 Tryz.underlying46 hi hz0 hz1 hz2 rfl (by decide) _ _ _ rfl (HKT.out.1.alloc _).own ⟨W.heap.size, 0, none⟩ 1 1 [.int .i64 (-1 - ix)] rfl rfl ?c1 ?c2 ?c3 ?c4 ?c5 ?_)
        case c1 => exact int_one_new _ _ _
        case c2 => intro u hu; simp at hu; subst hu; rfl
        case c3 => unfold maxLen; omega
        case c4 => omega
        case c5 => simp; omega
        intro v' w5 hown' hgrow _
        obtain ⟨g', cap', rfl⟩ := ownsRow_succ hown'
        obtain ⟨q1, q2⟩ := (HKT.out.1.alloc _).grown hgrow
        have HZ := Lib.hid (MX.round w3.heap.size HKT.out.1 HBS.out hgrow hown')
        clear hown' hgrow
        gi_wp2_with fail
        refine ⟨HZ.out.1, HZ.out.2.1, ⟨.slice (some ⟨g', 0, none⟩) (ms.length + 1) cap', ?_⟩, HKT.out.2.trans HZ.out.2.1⟩
        rw [hst.out]
        exact HZ.out.2.2
      · have hst := Lib.hid (metP_no (pre := pre) hneg)
        have HKT := Lib.hid (And.intro hT2 hk)
        clear hT2 hk
        generalize vs[x].1 = ix at *
        generalize vs[x].2 = pl at *
        have hcx0 : W.cell? ⟨Bx, 0, none⟩ = some (.int .i64 ix) := by simp [World.cell?, hcx]
        have dn : decide (ix < 0) = false := by simpa using hneg
        clear hlr hcx
        gi_wp2_with fail
        refine ⟨(KeepsOthers.refl _).from _, KAB.refl _ _ _ _, ⟨v2, ?_⟩, HKT.out.2⟩
        rw [hst.out]
        exact HKT.out.1
    case done =>
      rintro D ys W hD rfl ⟨⟨v2, hT2⟩, hk⟩ hK
      rw [metP_end] at hT2
      have hbW : Below w1.heap.size w1 W := HB3.out.trans hk.below
      have hsW := hk.size
      have c4 := hT2.c0
      obtain ⟨A2, cap2, rfl⟩ := hT2.own.slice
      have hdl : D < W.heap.size := (Array.getElem?_eq_some_iff.1 hK).1
      have HF := Lib.hid (And.intro hT2 (And.intro hbW hK))
      have hml := metK_len vs 0
      have hia := Lib.hid (hT2.own.ia (by omega))
      have hbf := Lib.hid (show Below w.heap.size w (W.putObj D (.deferred none)) from Below.grown (((((Below.refl w.heap.size w).alloc (Nat.le_refl _) _).trans (H1.out.mono (by simp))).trans (HF.out.2.1.mono (by omega)))) (grownBy_putObj' W D _) (by omega) (fun r e => by cases e; omega))
      clear hT2 hk hK hbW
      go_wp2_with fail
      rw [← HQ0.out]
      refine ⟨by simp, .inl ⟨_, _, rfl, run_takeDeferred HF.out.2.2, ?_⟩⟩
      refine ⟨.slice A2 (metK vs 0).length cap2, by simp [results, Tryz.results38, go_sem], A2, cap2, by rw [HM.out], ?_, hbf.out⟩
      rw [HM.out]
      exact (hia.out.putObj HF.out.2.2 rfl (.deferred none)).more (by simp [World.putObj])
    case stop =>
      rintro D c pre W _ _ h _
      exact h.elim
end Go.Proofs.YtpkheelcfkiacaaGreatDoor
