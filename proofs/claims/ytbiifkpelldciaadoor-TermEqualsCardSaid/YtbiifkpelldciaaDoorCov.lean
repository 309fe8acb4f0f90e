/- covered: whether some variable's offset is at least a constant. -/
import Derived.Test.YtbiifkpelldciaaDoorW
namespace Go.Proofs.YtbiifkpelldciaaDoor
open Go.RowKit

set_option maxHeartbeats 400000 in
theorem covered1_any (x y c : Int) (K : Nat) (w : World) (hK : w.cell? ⟨K, 0, none⟩ = some (.int .i64 c)) :
    Calls Tryd.prog 99 #[.agg #[.int .i64 x, .int .i64 y], .pointer (some ⟨K, 0, none⟩)] w fun e w' => e = .returned (.bool (decide (c ≤ y))) ∧ Below w.heap.size w w' := by
  have hlt : K < w.heap.size := by
    rcases Nat.lt_or_ge K w.heap.size with h | h
    · exact h
    · simp [World.cell?, Array.getElem?_eq_none h] at hK
  by_cases h1 : c ≤ y
  all_goals
    go_enter Tryd.func99, Tryd.ntmps99
    go_wp2
    go_ret
    exact ⟨by simp [h1], (Below.refl _ _).alloc (Nat.le_refl _) _⟩

/-- None of the first k offsets is at least c. -/
def NoCov (c : Int) (vs : List (Int × Int)) (k : Nat) : Prop := ∀ j x' y', j < k → vs[j]? = some (x', y') → y' < c
/-- Where the first offset stands that is at least c, or -1. -/
def covIdx (c : Int) (vs : List (Int × Int)) : Int := match vs.findIdx? (fun v => decide (c ≤ v.2)) with
  | some k => k
  | none => -1
def covB (c : Int) (vs : List (Int × Int)) : Bool := vs.any fun v => decide (c ≤ v.2)
theorem covIdx_at {c x y : Int} {vs : List (Int × Int)} {k : Nat} (hk : vs[k]? = some (x, y)) (h : c ≤ y) (hb : NoCov c vs k) : covIdx c vs = k := by
  have : vs.findIdx? (fun v => decide (c ≤ v.2)) = some k := by
    obtain ⟨hl, he⟩ := List.getElem?_eq_some_iff.1 hk
    rw [List.findIdx?_eq_some_iff_getElem]
    refine ⟨hl, by rw [he]; simpa using h, fun j hj => ?_⟩
    have := hb j (vs[j].1) (vs[j].2) hj (List.getElem?_eq_getElem (by omega))
    simpa using this
  simp [covIdx, this]
theorem covIdx_none {c : Int} {vs : List (Int × Int)} (hb : NoCov c vs vs.length) : covIdx c vs = -1 := by
  have : vs.findIdx? (fun v => decide (c ≤ v.2)) = none := by
    rw [List.findIdx?_eq_none_iff]
    intro v hv
    obtain ⟨j, hj, rfl⟩ := List.mem_iff_getElem.1 hv
    have := hb j (vs[j].1) (vs[j].2) hj (List.getElem?_eq_getElem hj)
    simpa using this
  simp [covIdx, this]
theorem covIdx_nonneg (c : Int) (vs : List (Int × Int)) : decide (0 ≤ covIdx c vs) = covB c vs := by
  unfold covIdx covB
  cases h : vs.findIdx? (fun v => decide (c ≤ v.2)) with
  | none =>
    rw [List.findIdx?_eq_none_iff] at h
    symm
    simpa using h
  | some k =>
    obtain ⟨hl, he, _⟩ := List.findIdx?_eq_some_iff_getElem.1 h
    have : vs.any (fun v => decide (c ≤ v.2)) = true := List.any_eq_true.2 ⟨vs[k], List.getElem_mem hl, he⟩
    rw [this]
    simp

set_option maxRecDepth 100000 in
set_option maxHeartbeats 1000000 in
theorem covIndex_any (A : Option Addr) (cap : Nat) (vs : List (Int × Int)) (c : Int) (K B : Nat) (w : World) (hv : VA w B A vs) (hB : B ≤ w.heap.size) (hK : w.cell? ⟨K, 0, none⟩ = some (.int .i64 c)) (hKl : K < w.heap.size) :
    Calls Tryd.prog 101 #[.slice A vs.length cap, .func (.func 99) #[] #[.pointer (some ⟨K, 0, none⟩)]] w
      fun e w' => e = .returned (.int .i64 (covIdx c vs)) ∧ Below w.heap.size w w' := by
  have hlen := hv.len
  go_enter Tryd.func101, Tryd.ntmps101
  go_wp2
  go_loopw [8] (fun i wr => ∃ k : Nat, k ≤ vs.length ∧ i = .int .i64 k ∧ NoCov c vs k ∧ Below w.heap.size w wr) (fun i _ => vs.length - (intOf i).toNat)
  case atStart => exact ⟨0, Nat.zero_le _, rfl, fun j _ _ h _ => absurd h (by omega), Below.refl _ _⟩
  case round =>
    obtain ⟨k, hk, rfl, hn, hbw⟩ := hrel
    have hKw : wr.cell? ⟨K, 0, none⟩ = some (.int .i64 c) := (hbw.cell (p := ⟨K, 0, none⟩) hKl).trans hK
    by_cases hlt : k < vs.length
    · obtain ⟨b, off, x, y, rfl, hb, hg, hc0, hc1⟩ := hv.at_ hlt
      have hG := Lib.hid hg
      clear hg
      replace hc0 : wr.cell? ⟨b, off + k * 2, none⟩ = some (.int .i64 x) := (hbw.cell (p := ⟨b, off + k * 2, none⟩) (by show b < w.heap.size; omega)).trans hc0
      replace hc1 : wr.cell? ⟨b, off + k * 2 + 1, none⟩ = some (.int .i64 y) := (hbw.cell (p := ⟨b, off + k * 2 + 1, none⟩) (by show b < w.heap.size; omega)).trans hc1
      by_cases hy : c ≤ y
      · go_wp2_with (go_at_call 99; refine (covered1_any _ _ c K _ hKw).mono ?_; rintro e w' ⟨rfl, hb'⟩)
        go_ret
        exact ⟨ret_int (covIdx_at hG.out hy hn).symm, hbw.trans (hb'.mono hbw.size)⟩
      · go_wp2_with (go_at_call 99; refine (covered1_any _ _ c K _ hKw).mono ?_; rintro e w' ⟨rfl, hb'⟩)
        go_roundw
        case rel => exact ⟨k + 1, by omega, by go_num, fun j x' y' hj hj' => by
            rcases Nat.lt_or_ge j k with h | h
            · exact hn j x' y' h hj'
            · obtain rfl : j = k := by omega
              rw [hG.out] at hj'; cases hj'; omega, hbw.trans (hb'.mono hbw.size)⟩
        case measure => simp [intOf]; omega
    · obtain rfl : k = vs.length := by omega
      go_wp2
      go_ret
      exact ⟨ret_int (covIdx_none hn).symm, hbw⟩

set_option maxHeartbeats 400000 in
theorem covContains_any (A : Option Addr) (cap : Nat) (vs : List (Int × Int)) (c : Int) (K B : Nat) (w : World) (hv : VA w B A vs) (hB : B ≤ w.heap.size) (hK : w.cell? ⟨K, 0, none⟩ = some (.int .i64 c)) (hKl : K < w.heap.size) :
    Calls Tryd.prog 98 #[.slice A vs.length cap, .func (.func 99) #[] #[.pointer (some ⟨K, 0, none⟩)]] w
      fun e w' => e = .returned (.bool (covB c vs)) ∧ Below w.heap.size w w' := by
  have h := covIdx_nonneg c vs
  have H := Lib.hid h
  clear h
  go_enter Tryd.func98, Tryd.ntmps98
  go_wp2_with (go_at_call 101; refine (covIndex_any _ _ _ c K B _ hv hB hK hKl).mono ?_; rintro e w' ⟨rfl, hb'⟩)
  go_ret
  exact ⟨ret_bool H.out, hb'⟩

set_option maxHeartbeats 400000 in
theorem covered_any (A : Option Addr) (cap : Nat) (vs : List (Int × Int)) (c : Int) (B : Nat) (w : World) (hv : VA w B A vs) (hB : B ≤ w.heap.size) :
    Calls Tryd.prog 91 #[.int .i64 c, .slice A vs.length cap] w fun e w' => e = .returned (.bool (covB c vs)) ∧ Below w.heap.size w w' := by
  have hv' := hv.alloc hB (.cells #[.int .i64 c] 3)
  go_enter Tryd.func91, Tryd.ntmps91
  go_wp2_with (go_at_call 98; refine (covContains_any _ _ _ c w.heap.size B _ hv' (by simp; omega) ?_ (by simp)).mono ?_)
  · go_simp
  · rintro e w' ⟨rfl, hb'⟩
    go_wp2
    go_ret
    exact ⟨rfl, ((Below.refl _ _).alloc (Nat.le_refl _) _).trans (hb'.mono (by simp))⟩
end Go.Proofs.YtbiifkpelldciaaDoor
