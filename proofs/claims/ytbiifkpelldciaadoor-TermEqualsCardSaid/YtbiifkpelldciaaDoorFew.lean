/- The law's Few: the number of variables of a level. -/
import Derived.Test.YtbiifkpelldciaaDoorNod
namespace Go.Proofs.YtbiifkpelldciaaDoor
open Go.RowKit

set_option maxRecDepth 100000 in
set_option maxHeartbeats 1000000 in
theorem many_any (c : Int) (A : Option Addr) (n cap : Nat) (w : World) : Calls Tryd.prog 39 #[.agg #[.int .i64 c, .slice A n cap]] w fun e w' => e = .returned (.bool (decide (20 < n))) ∧ Below w.heap.size w w' := by
  go_enter Tryd.func39, Tryd.ntmps39
  go_wp2
  go_ret
  exact ⟨ret_bool (decide_eq_decide.2 (by omega)), (Below.refl _ _).alloc (Nat.le_refl _) _⟩

/-- The slice of levels at A reads as ls, one by one: what a loop over it needs. -/
theorem LvsA.at_ {w : World} {B : Nat} {A : Option Addr} {ls : List (Int × List (Int × Int))} (h : LvsA w B A ls) {j : Nat} (hj : j < ls.length) : ∃ b off A' cap, A = some ⟨b, off, none⟩ ∧ b < B ∧ w.cell? ⟨b, off + j * 2, none⟩ = some (.int .i64 ls[j].1) ∧ w.cell? ⟨b, off + j * 2 + 1, none⟩ = some (.slice A' ls[j].2.length cap) ∧ VA w B A' ls[j].2 := by
  obtain ⟨b, off, e, hb, hc⟩ := h.2 (by omega)
  obtain ⟨h1, A', cap, h2, h3⟩ := hc j ls[j].1 ls[j].2 (List.getElem?_eq_getElem hj)
  exact ⟨b, off, A', cap, e, hb, h1, h2, h3⟩
def manyL (ls : List (Int × List (Int × Int))) : Bool := ls.any fun l => decide (20 < l.2.length)

theorem many_take {ls : List (Int × List (Int × Int))} {j : Nat} (hj : j < ls.length) : manyL (ls.take (j + 1)) = (manyL (ls.take j) || decide (20 < ls[j].2.length)) := by
  unfold manyL
  rw [List.take_add_one, List.getElem?_eq_getElem hj, Option.toList_some, List.any_append]
  simp
theorem many_at {ls : List (Int × List (Int × Int))} {j : Nat} (hj : j < ls.length) (h : decide (20 < ls[j].2.length) = true) : manyL ls = true := by
  unfold manyL
  exact List.any_eq_true.2 ⟨ls[j], List.getElem_mem hj, h⟩

set_option maxRecDepth 100000 in
set_option maxHeartbeats 2000000 in
theorem indexF_any (ls : List (Int × List (Int × Int))) (A : Option Addr) (cap B : Nat) (w : World) (hv : LvsA w B A ls) (hB : B ≤ w.heap.size) :
    Calls Tryd.prog 55 #[.slice A ls.length cap, .func (.func 39) #[] #[]] w fun e w' => ∃ r : Int, e = .returned (.int .i64 r) ∧ decide (0 ≤ r) = manyL ls ∧ Below w.heap.size w w' := by
  have hlen : ls.length ≤ 4398046511104 := by have := hv.1; omega
  have HV := Lib.hid hv
  clear hv
  go_enter Tryd.func55, Tryd.ntmps55
  go_wp2_with fail
  go_loopw [8] (fun v8 wr => ∃ j : Nat, v8 = .int .i64 (j : Int) ∧ j ≤ ls.length ∧ Below w.heap.size w wr ∧ Hid (manyL (ls.take j) = false)) (fun v8 _ => ls.length - (intOf v8).toNat)
  case atStart => exact ⟨0, rfl, Nat.zero_le _, Below.refl _ _, Lib.hid rfl⟩
  case round =>
    obtain ⟨j, rfl, hj, hb, hx⟩ := hrel
    by_cases hjl : j < ls.length
    · obtain ⟨b, off, A', cap', rfl, hbB, h0, h1, _⟩ := HV.out.at_ hjl
      have hbw : b < w.heap.size := by omega
      replace h0 := (hb.cell (p := ⟨b, off + j * 2, none⟩) hbw).trans h0
      replace h1 := (hb.cell (p := ⟨b, off + j * 2 + 1, none⟩) hbw).trans h1
      have HT := Lib.hid (many_take hjl)
      have HA := Lib.hid (fun h => many_at hjl h)
      go_wp2_with fail
      refine (many_any ls[j].1 A' ls[j].2.length cap' _).mono ?_
      rintro e w2 ⟨rfl, hb2⟩
      have HB2 := Lib.hid (hb.trans (hb2.mono hb.size))
      clear hb2 h0 h1 hb
      cases hg : decide (20 < ls[j].2.length) with
      | true =>
        have HM := Lib.hid (HA.out hg)
        go_wp2
        exact bodyPost_ret (v := .int .i64 j) (by simp [results, Tryd.results55, go_sem]) rfl ⟨j, rfl, by rw [HM.out, decide_eq_true_eq]; omega, HB2.out⟩
      | false =>
        have HM := Lib.hid (show manyL (ls.take (j + 1)) = false by rw [HT.out, hx.out, hg]; rfl)
        go_wp2
        go_roundw
        case rel => exact ⟨j + 1, by congr 1, by omega, HB2.out, HM⟩
        case measure => simp [intOf]; omega
    · have he : ls.take j = ls := List.take_of_length_le (by omega)
      have HM := Lib.hid (show manyL ls = false by rw [← hx.out, he])
      have hd2 : decide ((j : Int) < (ls.length : Int)) = false := by rw [decide_eq_false_iff_not]; omega
      clear he
      go_wp2
      exact bodyPost_ret (v := .int .i64 (-1)) (by simp [results, Tryd.results55, go_sem]) rfl ⟨-1, rfl, by rw [HM.out]; rfl, hb⟩

set_option maxRecDepth 100000 in
set_option maxHeartbeats 2000000 in
theorem contains_any (ls : List (Int × List (Int × Int))) (A : Option Addr) (cap B : Nat) (w : World) (hv : LvsA w B A ls) (hB : B ≤ w.heap.size) :
    Calls Tryd.prog 38 #[.slice A ls.length cap, .func (.func 39) #[] #[]] w fun e w' => e = .returned (.bool (manyL ls)) ∧ Below w.heap.size w w' := by
  have HC := Lib.hid (indexF_any ls A cap B w hv hB)
  clear hv
  go_enter Tryd.func38, Tryd.ntmps38
  go_wp2_with fail
  refine HC.out.mono ?_
  rintro e w2 ⟨r, rfl, hr, hb⟩
  have HR := Lib.hid hr
  clear hr HC
  go_wp2
  go_ret
  exact ⟨ret_bool HR.out, hb⟩
end Go.Proofs.YtbiifkpelldciaaDoor
