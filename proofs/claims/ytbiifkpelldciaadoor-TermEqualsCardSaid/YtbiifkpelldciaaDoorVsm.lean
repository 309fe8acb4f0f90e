/- Same. -/
import Derived.Test.YtbiifkpelldciaaDoorVrf
namespace Go.Proofs.YtbiifkpelldciaaDoor
open Go.RowKit

set_option maxRecDepth 100000 in
set_option maxHeartbeats 1000000 in
theorem equal_any (A1 : Option Addr) (cap1 : Nat) (v1 : List (Int × Int)) (A2 : Option Addr) (cap2 : Nat) (v2 : List (Int × Int)) (B : Nat) (w : World) (hv1 : VA w B A1 v1) (hv2 : VA w B A2 v2) (hB : B ≤ w.heap.size) :
    Calls Tryd.prog 73 #[.slice A1 v1.length cap1, .slice A2 v2.length cap2] w fun e w' => e = .returned (.bool (decide (v1 = v2))) ∧ Below w.heap.size w w' := by
  have hlen1 := hv1.len
  have hlen2 := hv2.len
  by_cases hll : v1.length = v2.length
  · have hln : (v1.length : Int) = (v2.length : Int) := by omega
    have hl12 := Lib.hid hll
    have hq : ((v1.length : Int) != (v2.length : Int)) = false := by simp [hln]
    clear hll hln
    go_enter Tryd.func73, Tryd.ntmps73
    go_wp2
    go_loopw [13] (fun i wr => ∃ k : Nat, k ≤ v1.length ∧ i = .int .i64 k ∧ AgreeTo v1 v2 k ∧ Below w.heap.size w wr) (fun i _ => v1.length - (intOf i).toNat)
    case atStart => exact ⟨0, Nat.zero_le _, rfl, fun j h => absurd h (by omega), Below.refl _ _⟩
    case round =>
      obtain ⟨k, hk, rfl, hn, hfr⟩ := hrel
      have HN := Lib.hid hn
      clear hn
      have hvr1 := hv1.below hfr hB
      have hvr2 := hv2.below hfr hB
      by_cases hlt : k < v1.length
      · have hlt2 : k < v2.length := by have := hl12.out; omega
        obtain ⟨b1, off1, x1, y1, rfl, hb1, hg1, hc0, hc1⟩ := hvr1.at_ hlt
        obtain ⟨b2, off2, x2, y2, rfl, hb2, hg2, hd0, hd1⟩ := hvr2.at_ hlt2
        have hG := Lib.hid (And.intro hg1 hg2)
        clear hg1 hg2
        by_cases he : x1 = x2 ∧ y1 = y2
        · obtain ⟨rfl, rfl⟩ := he
          go_wp2
          go_quiet (fail)
          go_wp2
          go_roundw
          case rel => exact ⟨k + 1, by omega, by go_num, fun j hj => by
              rcases Nat.lt_or_ge j k with h1 | h1
              · exact HN.out j h1
              · obtain rfl : j = k := by omega
                rw [hG.out.1, hG.out.2], Below.drewN' hfr _⟩
          case measure => simp [intOf]; omega
        · have hbad : Hid (decide (v1 = v2) = false) := Lib.hid (by
            simp only [decide_eq_false_iff_not]
            intro e
            have h1 := hG.out.1
            rw [e, hG.out.2] at h1
            simp only [Option.some.injEq, Prod.mk.injEq] at h1
            exact he ⟨h1.1.symm, h1.2.symm⟩)
          have hcases : (x1 == x2) = false ∨ (x1 = x2 ∧ (y1 == y2) = false) := by
            simp only [beq_eq_false_iff_ne]; omega
          clear he
          rcases hcases with h1 | ⟨rfl, h1⟩
          all_goals
            go_wp2
            go_quiet (fail)
            go_wp2
            go_ret
            exact ⟨ret_bool hbad.out.symm, Below.drewN' hfr _⟩
      · obtain rfl : k = v1.length := by omega
        have hgood : Hid (decide (v1 = v2) = true) := Lib.hid (by
          have h := sameB_end (c := 0) hl12.out HN.out
          simpa [sameB] using h)
        go_wp2
        go_ret
        exact ⟨ret_bool hgood.out.symm, hfr⟩
  · have hbad : Hid (decide (v1 = v2) = false) := Lib.hid (by
      simp only [decide_eq_false_iff_not]
      intro e
      exact hll (by rw [e]))
    have hq : ((v1.length : Int) != (v2.length : Int)) = true := by simp; omega
    go_enter Tryd.func73, Tryd.ntmps73
    go_wp2
    go_ret
    exact ⟨ret_bool hbad.out.symm, Below.refl _ _⟩

set_option maxRecDepth 100000 in
set_option maxHeartbeats 1000000 in
theorem same_any (c1 : Int) (A1 : Option Addr) (cap1 : Nat) (v1 : List (Int × Int)) (c2 : Int) (A2 : Option Addr) (cap2 : Nat) (v2 : List (Int × Int)) (B : Nat) (w : World) (hv1 : VA w B A1 v1) (hv2 : VA w B A2 v2) (hB : B ≤ w.heap.size) :
    Calls Tryd.prog 60 #[.agg #[.int .i64 c1, .slice A1 v1.length cap1], .agg #[.int .i64 c2, .slice A2 v2.length cap2]] w fun e w' => e = .returned (.bool (sameB c1 v1 c2 v2)) ∧ Below w.heap.size w w' := by
  have heq := Lib.hid (fun W (hb : Below w.heap.size w W) => equal_any A1 cap1 v1 A2 cap2 v2 B W (hv1.below hb hB) (hv2.below hb hB) (by have := hb.size; omega))
  have hb0 : Hid (Below w.heap.size w ((w.alloc (.cells #[.int .i64 c1, .slice A1 v1.length cap1] 52)).alloc (.cells #[.int .i64 c2, .slice A2 v2.length cap2] 52))) := Lib.hid (((Below.refl _ _).alloc (Nat.le_refl _) _).alloc (by simp) _)
  by_cases hcc : c1 = c2
  · subst hcc
    have hs : Hid (sameB c1 v1 c1 v2 = decide (v1 = v2)) := Lib.hid (by simp [sameB])
    clear hv1 hv2
    go_enter Tryd.func60, Tryd.ntmps60
    go_wp2_with fail
    refine (heq.out _ hb0.out).mono ?_
    rintro e w1 ⟨rfl, hb1⟩
    have HB := Lib.hid (hb0.out.trans (hb1.mono hb0.out.size))
    clear hb1
    go_wp2
    go_ret
    exact ⟨ret_bool hs.out.symm, HB.out⟩
  · have hbad := Lib.hid (sameB_const (v1 := v1) (v2 := v2) hcc)
    have hq : (c1 == c2) = false := by simpa using hcc
    clear hv1 hv2
    go_enter Tryd.func60, Tryd.ntmps60
    go_wp2
    go_ret
    exact ⟨ret_bool hbad.out.symm, hb0.out⟩
end Go.Proofs.YtbiifkpelldciaaDoor
