/- The reference: level, the error of a level. -/
import Derived.Test.YtobaeeobfcffoaaDoorLvc
namespace Go.Proofs.YtobaeeobfcffoaaDoor
open Go.RowKit

theorem vld_ok {c : Int} {vs : List (Int × Int)} (h : vldB c vs = true) : OkTo vs vs.length := by
  simp only [vldB, Bool.and_eq_true] at h
  exact (okB_iff vs).1 h.2.1
theorem ok_le {vs : List (Int × Int)} (h : OkTo vs vs.length) : ∀ (d j : Nat) (x y x' y' : Int), vs[j]? = some (x, y) → vs[j + d]? = some (x', y') → x ≤ x'
  | 0, j, x, y, x', y', h1, h2 => by rw [Nat.add_zero, h1] at h2; cases h2; exact Int.le_refl _
  | d + 1, j, x, y, x', y', h1, h2 => by
    have hl : j + (d + 1) < vs.length := (List.getElem?_eq_some_iff.1 h2).1
    have hm : vs[j + d]? = some vs[j + d] := List.getElem?_eq_getElem (by omega)
    have e1 := ok_le h d j x y vs[j + d].1 vs[j + d].2 h1 hm
    have e2 := (h (j + (d + 1)) x' y' hl h2).2 vs[j + d].1 vs[j + d].2 (by omega) (by rw [show j + (d + 1) - 1 = j + d by omega]; exact hm)
    omega
theorem lvE_raw15 {params levels c x y : Int} {vs : List (Int × Int)} {j : Nat} (h : vldB c vs = true) (hg : vs[j]? = some (x, y)) (h0 : 0 ≤ x) (hp : params ≤ x) : lvE (max 0 params) (max 0 levels) c vs = 15 := by
  have hl : j < vs.length := (List.getElem?_eq_some_iff.1 hg).1
  have hm : vs[vs.length - 1]? = some vs[vs.length - 1] := List.getElem?_eq_getElem (by omega)
  have e := ok_le (vld_ok h) (vs.length - 1 - j) j x y vs[vs.length - 1].1 vs[vs.length - 1].2 hg (by rw [show j + (vs.length - 1 - j) = vs.length - 1 by omega]; exact hm)
  refine lvE_par h ?_
  rw [parI_yes (x := vs[vs.length - 1].1) (y := vs[vs.length - 1].2) h hm]
  omega
theorem par_no {params c : Int} {vs : List (Int × Int)} (h : vldB c vs = true) (hn : ∀ (j : Nat) x y, vs[j]? = some (x, y) → ¬ (0 ≤ x ∧ params ≤ x)) : ¬ max 0 params < parI c vs := by
  by_cases hl : vs.length = 0
  · rw [parI_nil hl]; omega
  · have hm : vs[vs.length - 1]? = some vs[vs.length - 1] := List.getElem?_eq_getElem (by omega)
    rw [parI_yes (x := vs[vs.length - 1].1) (y := vs[vs.length - 1].2) h hm]
    have := hn (vs.length - 1) vs[vs.length - 1].1 vs[vs.length - 1].2 hm
    omega
theorem lvE_raw23 {params levels c x y : Int} {vs : List (Int × Int)} {j : Nat} (h : vldB c vs = true) (hn : ∀ (j : Nat) x y, vs[j]? = some (x, y) → ¬ (0 ≤ x ∧ params ≤ x)) (hg : vs[j]? = some (x, y)) (h0 : x < 0) (hp : levels ≤ -1 - x) : lvE (max 0 params) (max 0 levels) c vs = 23 := by
  have hl : j < vs.length := (List.getElem?_eq_some_iff.1 hg).1
  have hm : vs[0]? = some vs[0] := List.getElem?_eq_getElem (by omega)
  have e := ok_le (vld_ok h) j 0 vs[0].1 vs[0].2 x y hm (by rw [Nat.zero_add]; exact hg)
  rw [lvE_some (x := vs[0].1) (y := vs[0].2) h (par_no h hn) hm, if_pos (by omega)]
theorem lvE_raw0 {params levels c : Int} {vs : List (Int × Int)} (h : vldB c vs = true) (hn : ∀ (j : Nat) x y, vs[j]? = some (x, y) → ¬ (0 ≤ x ∧ params ≤ x)) (hm2 : ∀ (j : Nat) x y, vs[j]? = some (x, y) → ¬ (x < 0 ∧ levels ≤ -1 - x)) : lvE (max 0 params) (max 0 levels) c vs = 0 := by
  by_cases hl : vs.length = 0
  · exact lvE_nil h (par_no h hn) hl
  · have hm : vs[0]? = some vs[0] := List.getElem?_eq_getElem (by omega)
    rw [lvE_some (x := vs[0].1) (y := vs[0].2) h (par_no h hn) hm, if_neg]
    have := hm2 0 vs[0].1 vs[0].2 hm
    omega

set_option maxRecDepth 100000 in
set_option maxHeartbeats 4000000 in
theorem rlevel_any (params levels c : Int) (A : Option Addr) (cap : Nat) (vs : List (Int × Int)) (B : Nat) (w : World) (hv : VA w B A vs) (hB : B ≤ w.heap.size) :
    Calls Tryd.prog 73 #[.agg #[.int .i64 c, .slice A vs.length cap], .int .i64 params, .int .i64 levels] w fun e w' => e = .returned (.int .i64 (lvE (max 0 params) (max 0 levels) c vs)) ∧ Below w.heap.size w w' := by
  have hlen := hv.len
  go_enter Tryd.func73, Tryd.ntmps73
  go_wp2_with fail
  refine (rvalid_any c A cap vs B _ (hv.alloc hB _) (by simp; omega)).mono ?_
  rintro e w1 ⟨rfl, hb1⟩
  have l1 : w1.cell? ⟨w.heap.size, 1, none⟩ = some (.slice A vs.length cap) := (hb1.cell (p := ⟨w.heap.size, 1, none⟩) (by simp)).trans (by go_simp)
  have hf1 : Below w.heap.size w w1 := ((Below.refl _ _).alloc (Nat.le_refl _) _).trans (hb1.mono (by simp))
  have hs1 : w.heap.size < w1.heap.size := by have := hb1.size; simp at this; omega
  clear hb1
  cases hvd : vldB c vs with
  | false =>
    have HV := Lib.hid (lvE_bad (params := max 0 params) (levels := max 0 levels) hvd)
    clear hvd
    go_wp2_with fail
    go_ret
    exact ⟨ret_int HV.out.symm, hf1⟩
  | true =>
    have HD := Lib.hid hvd
    clear hvd
    go_wp2_with fail
    go_loopw [7] (fun i wr => ∃ k : Nat, k ≤ vs.length ∧ i = .int .i64 (k : Int) ∧ Hid (∀ (j : Nat) x y, j < k → vs[j]? = some (x, y) → ¬ (0 ≤ x ∧ params ≤ x)) ∧ wr = w1) (fun i _ => vs.length - (intOf i).toNat)
    case atStart => exact ⟨0, Nat.zero_le _, rfl, Lib.hid (fun j _ _ h _ => absurd h (by omega)), rfl⟩
    case round =>
      obtain ⟨k, hk, rfl, HN, rfl⟩ := hrel
      by_cases hlt : k < vs.length
      · obtain ⟨b, off, x, y, rfl, hb, hg, hc0, hc1⟩ := (hv.below hf1 hB).at_ hlt
        have HG := Lib.hid hg
        clear hg hc1
        by_cases hx0 : 0 ≤ x
        · have d0 : decide (0 ≤ x) = true := decide_eq_true hx0
          by_cases hxp : params ≤ x
          · have d1 : decide (params ≤ x) = true := decide_eq_true hxp
            have HV := Lib.hid (lvE_raw15 (levels := levels) HD.out HG.out hx0 hxp)
            go_wp2_with fail
            go_ret
            exact ⟨ret_int HV.out.symm, hf1⟩
          · have d1 : decide (params ≤ x) = false := decide_eq_false hxp
            have HN2 : Hid (∀ (j : Nat) x y, j < k + 1 → vs[j]? = some (x, y) → ¬ (0 ≤ x ∧ params ≤ x)) := Lib.hid (fun j x' y' hj hgj => by
              rcases Nat.lt_or_ge j k with h | h
              · exact HN.out j x' y' h hgj
              · obtain rfl : j = k := by omega
                rw [HG.out] at hgj
                cases hgj
                omega)
            have hxq : ¬ params ≤ x := hxp
            go_wp2_with fail
            go_roundw
            case rel => exact ⟨k + 1, hlt, by go_num, HN2, trivial⟩
            case measure => simp [intOf]; omega
        · have d0 : decide (0 ≤ x) = false := decide_eq_false hx0
          have HN2 : Hid (∀ (j : Nat) x y, j < k + 1 → vs[j]? = some (x, y) → ¬ (0 ≤ x ∧ params ≤ x)) := Lib.hid (fun j x' y' hj hgj => by
            rcases Nat.lt_or_ge j k with h | h
            · exact HN.out j x' y' h hgj
            · obtain rfl : j = k := by omega
              rw [HG.out] at hgj
              cases hgj
              omega)
          have hxq : ¬ 0 ≤ x := hx0
          go_wp2_with fail
          go_roundw
          case rel => exact ⟨k + 1, hlt, by go_num, HN2, trivial⟩
          case measure => simp [intOf]; omega
      · have HNO : Hid (∀ (j : Nat) x y, vs[j]? = some (x, y) → ¬ (0 ≤ x ∧ params ≤ x)) := Lib.hid (fun j x y hg => HN.out j x y (by have := (List.getElem?_eq_some_iff.1 hg).1; omega) hg)
        have hkn : ¬ k < vs.length := hlt
        have hki : decide ((k : Int) < (vs.length : Int)) = false := by rw [decide_eq_false_iff_not]; omega
        clear HN hlt
        go_wp2_with fail
        go_loopw [8] (fun i wq => ∃ k : Nat, k ≤ vs.length ∧ i = .int .i64 (k : Int) ∧ Hid (∀ (j : Nat) x y, j < k → vs[j]? = some (x, y) → ¬ (x < 0 ∧ levels ≤ -1 - x)) ∧ wq = wr) (fun i _ => vs.length - (intOf i).toNat)
        case atStart => exact ⟨0, Nat.zero_le _, rfl, Lib.hid (fun j _ _ h _ => absurd h (by omega)), rfl⟩
        case round =>
          obtain ⟨k, hk, rfl, HN, rfl⟩ := hrel
          by_cases hlt : k < vs.length
          · obtain ⟨b, off, x, y, rfl, hb, hg, hc0, hc1⟩ := (hv.below hf1 hB).at_ hlt
            have HG := Lib.hid hg
            have hxr := vld_idx HD.out (x, y) (List.mem_of_getElem? hg)
            obtain ⟨hxr1, hxr2⟩ := hxr
            simp only at hxr1 hxr2
            clear hg hc1
            by_cases hx0 : x < 0
            · have d0 : decide (x < 0) = true := decide_eq_true hx0
              by_cases hxp : levels ≤ -1 - x
              · have d1 : decide (levels ≤ -1 - x) = true := decide_eq_true hxp
                have HV := Lib.hid (lvE_raw23 HD.out HNO.out HG.out hx0 hxp)
                go_wp2_with fail
                go_ret
                exact ⟨ret_int HV.out.symm, hf1⟩
              · have d1 : decide (levels ≤ -1 - x) = false := decide_eq_false hxp
                have HN2 : Hid (∀ (j : Nat) x y, j < k + 1 → vs[j]? = some (x, y) → ¬ (x < 0 ∧ levels ≤ -1 - x)) := Lib.hid (fun j x' y' hj hgj => by
                  rcases Nat.lt_or_ge j k with h | h
                  · exact HN.out j x' y' h hgj
                  · obtain rfl : j = k := by omega
                    rw [HG.out] at hgj
                    cases hgj
                    omega)
                have hxq : ¬ levels ≤ -1 - x := hxp
                go_wp2_with fail
                go_roundw
                case rel => exact ⟨k + 1, hlt, by go_num, HN2, trivial⟩
                case measure => simp [intOf]; omega
            · have d0 : decide (x < 0) = false := decide_eq_false hx0
              have HN2 : Hid (∀ (j : Nat) x y, j < k + 1 → vs[j]? = some (x, y) → ¬ (x < 0 ∧ levels ≤ -1 - x)) := Lib.hid (fun j x' y' hj hgj => by
                rcases Nat.lt_or_ge j k with h | h
                · exact HN.out j x' y' h hgj
                · obtain rfl : j = k := by omega
                  rw [HG.out] at hgj
                  cases hgj
                  omega)
              have hxq : ¬ x < 0 := hx0
              go_wp2_with fail
              go_roundw
              case rel => exact ⟨k + 1, hlt, by go_num, HN2, trivial⟩
              case measure => simp [intOf]; omega
          · have HV : Hid (lvE (max 0 params) (max 0 levels) c vs = 0) := Lib.hid (lvE_raw0 HD.out HNO.out (fun j x y hg => HN.out j x y (by have := (List.getElem?_eq_some_iff.1 hg).1; omega) hg))
            have hkn : ¬ k < vs.length := hlt
            have hki : decide ((k : Int) < (vs.length : Int)) = false := by rw [decide_eq_false_iff_not]; omega
            go_wp2_with fail
            go_ret
            exact ⟨ret_int HV.out.symm, hf1⟩
end Go.Proofs.YtobaeeobfcffoaaDoor
