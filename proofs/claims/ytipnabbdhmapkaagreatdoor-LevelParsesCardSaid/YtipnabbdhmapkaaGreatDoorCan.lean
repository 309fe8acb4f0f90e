/- canonical and least. -/
import Derived.Test.YtipnabbdhmapkaaGreatDoorCov
import Derived.Test.YtipnabbdhmapkaaGreatDoorRow
namespace Go.Proofs.YtipnabbdhmapkaaGreatDoor
open Go.RowKit

def canonC (c : Int) (vs : List (Int × Int)) : Int := if covB c vs = true then 0 else c
def leastI (c : Int) (vs : List (Int × Int)) : Int := vs.foldl (fun m v => max m v.2) c
theorem leastI_snoc (c : Int) (vs : List (Int × Int)) (k : Nat) (x y : Int) (h : vs[k]? = some (x, y)) : leastI c (vs.take (k + 1)) = max (leastI c (vs.take k)) y := by
  obtain ⟨hl, he⟩ := List.getElem?_eq_some_iff.1 h
  rw [List.take_succ_eq_append_getElem hl, leastI, List.foldl_append, he]
  rfl

set_option maxHeartbeats 1000000 in
theorem canonical_any (c : Int) (A : Option Addr) (cap : Nat) (vs : List (Int × Int)) (B : Nat) (w : World) (hv : VA w B A vs) (hB : B ≤ w.heap.size) :
    Calls Tryz.prog 52 #[.int .i64 c, .slice A vs.length cap] w fun e w' => e = .returned (.agg #[.int .i64 (canonC c vs), .slice A vs.length cap]) ∧ Below w.heap.size w w' := by
  have hv' := hv.alloc hB (.cells #[.int .i64 0, .slice none 0 0] 24)
  cases hc : covB c vs
  · have H := Lib.hid hc
    rw [show canonC c vs = c by simp [canonC, hc]]
    clear hc
    go_enter Tryz.func52, Tryz.ntmps52
    go_wp2_with fail
    refine (covered_any _ _ _ _ B _ hv' (by simp; omega)).mono ?_
    rw [H.out]
    rintro e w' ⟨rfl, hb⟩
    have hcell : w'.cell? ⟨w.heap.size, 0, none⟩ = some (.int .i64 0) := (hb.cell (p := ⟨w.heap.size, 0, none⟩) (by simp)).trans (by go_simp)
    have hcell1 : w'.cell? ⟨w.heap.size, 1, none⟩ = some (.slice none 0 0) := (hb.cell (p := ⟨w.heap.size, 1, none⟩) (by simp)).trans (by go_simp)
    have hf : w'.frozen? ⟨w.heap.size, 0, none⟩ = false := (hb.frozen (p := ⟨w.heap.size, 0, none⟩) (by simp)).trans (by go_simp)
    have hf1 : w'.frozen? ⟨w.heap.size, 1, none⟩ = false := (hb.frozen (p := ⟨w.heap.size, 1, none⟩) (by simp)).trans (by go_simp)
    go_wp2
    exact bodyPost_ret (v := .agg #[.int .i64 c, .slice A vs.length cap]) (by simp [results, Tryz.results52, go_sem, hcell, hcell1]) rfl ⟨rfl, ((((Below.refl _ _).alloc (Nat.le_refl _) _).trans (hb.mono (by simp))).setCell (Nat.le_refl _) _).setCell (Nat.le_refl _) _⟩
  · have H := Lib.hid hc
    rw [show canonC c vs = 0 by simp [canonC, hc]]
    clear hc
    go_enter Tryz.func52, Tryz.ntmps52
    go_wp2_with fail
    refine (covered_any _ _ _ _ B _ hv' (by simp; omega)).mono ?_
    rw [H.out]
    rintro e w' ⟨rfl, hb⟩
    have hcell : w'.cell? ⟨w.heap.size, 0, none⟩ = some (.int .i64 0) := (hb.cell (p := ⟨w.heap.size, 0, none⟩) (by simp)).trans (by go_simp)
    have hcell1 : w'.cell? ⟨w.heap.size, 1, none⟩ = some (.slice none 0 0) := (hb.cell (p := ⟨w.heap.size, 1, none⟩) (by simp)).trans (by go_simp)
    have hf : w'.frozen? ⟨w.heap.size, 0, none⟩ = false := (hb.frozen (p := ⟨w.heap.size, 0, none⟩) (by simp)).trans (by go_simp)
    have hf1 : w'.frozen? ⟨w.heap.size, 1, none⟩ = false := (hb.frozen (p := ⟨w.heap.size, 1, none⟩) (by simp)).trans (by go_simp)
    go_wp2
    exact bodyPost_ret (v := .agg #[.int .i64 0, .slice A vs.length cap]) (by simp [results, Tryz.results52, go_sem, hcell, hcell1]) rfl ⟨rfl, ((((Below.refl _ _).alloc (Nat.le_refl _) _).trans (hb.mono (by simp))).setCell (Nat.le_refl _) _).setCell (Nat.le_refl _) _⟩

set_option maxRecDepth 100000 in
set_option maxHeartbeats 1000000 in
theorem least_any (c : Int) (A : Option Addr) (cap : Nat) (vs : List (Int × Int)) (B : Nat) (w : World) (hv : VA w B A vs) (hB : B ≤ w.heap.size) :
    Calls Tryz.prog 50 #[.agg #[.int .i64 c, .slice A vs.length cap]] w fun e w' => e = .returned (.int .i64 (leastI c vs)) ∧ Below w.heap.size w w' := by
  have hlen := hv.len
  go_enter Tryz.func50, Tryz.ntmps50
  go_wp2
  go_loopw [3, 11] (fun m i wr => ∃ k : Nat, k ≤ vs.length ∧ i = .int .i64 k ∧ m = .int .i64 (leastI c (vs.take k)) ∧ Below w.heap.size w wr) (fun _ i _ => vs.length - (intOf i).toNat)
  case atStart => exact ⟨0, Nat.zero_le _, rfl, rfl, (Below.refl _ _).alloc (Nat.le_refl _) _⟩
  case round =>
    obtain ⟨k, hk, rfl, rfl, hbw⟩ := hrel
    have hvr := hv.below hbw hB
    by_cases hlt : k < vs.length
    · obtain ⟨b, off, x, y, rfl, hb, hg, hc0, hc1⟩ := hvr.at_ hlt
      have HG := Lib.hid (leastI_snoc c vs k x y hg)
      clear hg
      go_wp2
      go_roundw
      case rel => exact ⟨k + 1, by omega, by go_num, congrArg (Value.int .i64) (by rw [HG.out]; split <;> omega), hbw.trans ((Below.refl _ _).alloc hbw.size _)⟩
      case measure => simp [intOf]; omega
    · obtain rfl : k = vs.length := by omega
      go_wp2
      go_ret
      exact ⟨ret_int (by rw [List.take_length]), hbw⟩
end Go.Proofs.YtipnabbdhmapkaaGreatDoor
