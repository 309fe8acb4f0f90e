/- The reference: Valid and Same. -/
import Derived.Test.YtbiifkpelldciaaDoorVal
namespace Go.Proofs.YtbiifkpelldciaaDoor
open Go.RowKit

theorem vldB_cov {c : Int} {vs : List (Int × Int)} {k : Nat} {x y : Int} (h0 : 0 < c) (hg : vs[k]? = some (x, y)) (hy : c ≤ y) : vldB c vs = false := by
  have : covB c vs = true := List.any_eq_true.2 ⟨(x, y), List.mem_of_getElem? hg, by simpa using hy⟩
  have hc : decide (c = 0) = false := by simp; omega
  simp [vldB, this, hc]
theorem vldB_all {c : Int} {vs : List (Int × Int)} (h1 : 0 ≤ c) (h2 : c ≤ 100) (ho : OkTo vs vs.length) (hn : c = 0 ∨ NoCov c vs vs.length) : vldB c vs = true := by
  rw [vldB_end ⟨h1, h2⟩ ho]
  rcases hn with rfl | hn
  · simp
  · have : covB c vs = false := by
      rw [← covIdx_nonneg, covIdx_none hn]
      simp
    simp [this]

set_option maxRecDepth 100000 in
set_option maxHeartbeats 2000000 in
theorem rvalid_any (c : Int) (A : Option Addr) (cap : Nat) (vs : List (Int × Int)) (B : Nat) (w : World) (hv : VA w B A vs) (hB : B ≤ w.heap.size) :
    Calls Tryd.prog 72 #[.agg #[.int .i64 c, .slice A vs.length cap]] w fun e w' => e = .returned (.bool (vldB c vs)) ∧ Below w.heap.size w w' := by
  have hlen := hv.len
  by_cases hc : 0 ≤ c ∧ c ≤ 100
  · obtain ⟨c1, c2⟩ := hc
    go_enter Tryd.func72, Tryd.ntmps72
    go_wp2
    go_loopw [3] (fun i wr => ∃ k : Nat, k ≤ vs.length ∧ i = .int .i64 k ∧ OkTo vs k ∧ (c = 0 ∨ NoCov c vs k) ∧ Below (w.heap.size + 1) (w.alloc (.cells #[.int .i64 c, .slice A vs.length cap] 52)) wr) (fun i _ => vs.length - (intOf i).toNat)
    case atStart => exact ⟨0, Nat.zero_le _, rfl, fun j _ _ h _ => absurd h (by omega), .inr fun j _ _ h _ => absurd h (by omega), Below.refl _ _⟩
    case round =>
      obtain ⟨k, hk, rfl, hn, hnc, hbw⟩ := hrel
      have HN := Lib.hid (And.intro hn hnc)
      clear hn hnc
      have hl0 : wr.cell? ⟨w.heap.size, 0, none⟩ = some (.int .i64 c) := (hbw.cell (p := ⟨w.heap.size, 0, none⟩) (by simp)).trans (by go_simp)
      have hl1 : wr.cell? ⟨w.heap.size, 1, none⟩ = some (.slice A vs.length cap) := (hbw.cell (p := ⟨w.heap.size, 1, none⟩) (by simp)).trans (by go_simp)
      have hfr : Below w.heap.size w wr := ((Below.refl _ _).alloc (Nat.le_refl _) _).trans (hbw.mono (by simp))
      have hvr := hv.below hfr hB
      have hsz : w.heap.size + 1 ≤ wr.heap.size := by have := hbw.size; simpa using this
      by_cases hlt : k < vs.length
      · obtain ⟨b, off, x, y, hA, hb, hg, hc0, hc1⟩ := hvr.at_ hlt
        have hG := Lib.hid hg
        clear hg
        have hl0a : ∀ o, (wr.alloc o).cell? ⟨w.heap.size, 0, none⟩ = some (.int .i64 c) := fun o => (World.cell?_alloc_lt wr o ⟨w.heap.size, 0, none⟩ hsz).trans hl0
        have hl1a : ∀ o, (wr.alloc o).cell? ⟨w.heap.size, 1, none⟩ = some (.slice A vs.length cap) := fun o => (World.cell?_alloc_lt wr o ⟨w.heap.size, 1, none⟩ hsz).trans hl1
        by_cases hr : (-65536 ≤ x ∧ x ≤ 7) ∧ 0 ≤ y ∧ y ≤ 100
        · have HR := Lib.hid hr
          obtain ⟨⟨hx1, hx2⟩, hy1, hy2⟩ := hr
          have d1 : decide (x < -65536) = false := by simp; omega
          have d2 : decide (8 ≤ x) = false := by simp; omega
          have d3 : decide (y < 0) = false := by simp; omega
          have d4 : decide (100 < y) = false := by simp; omega
          by_cases hk0 : 0 < k
          · obtain ⟨b', off', x', y', hA', _, hg', hp0, hp1⟩ := hvr.at_ (k := k - 1) (by omega)
            rw [hA] at hA'
            cases hA'
            subst hA
            have hG' := Lib.hid hg'
            clear hg'
            have hp0a : ∀ o, (wr.alloc o).cell? ⟨b, off + (k - 1) * 2, none⟩ = some (.int .i64 x') := fun o => (World.cell?_alloc_lt wr o ⟨b, off + (k - 1) * 2, none⟩ (by show b < wr.heap.size; omega)).trans hp0
            have hk1 : (0 : Int) < (k : Int) := by omega
            have hk2 : (k : Int) - 1 < (vs.length : Int) := by omega
            by_cases hxx : x' < x
            · have hxd : decide (x ≤ x') = false := by simp; omega
              by_cases hcz : 0 < c
              · by_cases hcy : c ≤ y
                · have hbad := Lib.hid (vldB_cov hcz hG.out hcy)
                  go_wp2
                  go_quiet (fail)
                  go_wp2
                  go_ret
                  exact ⟨ret_bool hbad.out.symm, hfr.trans (Below.drewN' ((Below.refl _ _).alloc (by omega) _) _)⟩
                · have hcd : decide (c ≤ y) = false := by simp; omega
                  go_wp2
                  go_quiet (fail)
                  go_wp2
                  go_roundw
                  case rel => exact ⟨k + 1, by omega, by go_num, HN.out.1.next hG.out HR.out (fun x2 y2 _ h2 => by rw [hG'.out] at h2; cases h2; exact hxx), HN.out.2.imp id (fun h j x2 y2 hj hj2 => by
                      rcases Nat.lt_or_ge j k with h1 | h1
                      · exact h j x2 y2 h1 hj2
                      · obtain rfl : j = k := by omega
                        rw [hG.out] at hj2; cases hj2; omega), hbw.trans (Below.drewN' ((Below.refl _ _).alloc (by omega) _) _)⟩
                  case measure => simp [intOf]; omega
              · have hcd : decide (0 < c) = false := by simp; omega
                go_wp2
                go_quiet (fail)
                go_wp2
                go_roundw
                case rel => exact ⟨k + 1, by omega, by go_num, HN.out.1.next hG.out HR.out (fun x2 y2 _ h2 => by rw [hG'.out] at h2; cases h2; exact hxx), .inl (by omega), hbw.trans (Below.drewN' ((Below.refl _ _).alloc (by omega) _) _)⟩
                case measure => simp [intOf]; omega
            · have hxd : x ≤ x' := by omega
              have hbad := Lib.hid (vldB_ok (c := c) (okB_order hG.out hk0 hG'.out hxx))
              go_wp2
              go_quiet (fail)
              go_wp2
              go_ret
              exact ⟨ret_bool hbad.out.symm, hfr.trans (Below.drewN' ((Below.refl _ _).alloc (by omega) _) _)⟩
          · have hd : decide ((0 : Int) < (k : Int)) = false := decide_eq_false (by omega)
            subst hA
            by_cases hcz : 0 < c
            · by_cases hcy : c ≤ y
              · have hbad := Lib.hid (vldB_cov hcz hG.out hcy)
                go_wp2
                go_quiet (fail)
                go_wp2
                go_ret
                exact ⟨ret_bool hbad.out.symm, hfr.trans (Below.drewN' ((Below.refl _ _).alloc (by omega) _) _)⟩
              · have hcd : decide (c ≤ y) = false := by simp; omega
                go_wp2
                go_quiet (fail)
                go_wp2
                go_roundw
                case rel => exact ⟨k + 1, by omega, by go_num, HN.out.1.next hG.out HR.out (fun x2 y2 h0 _ => absurd h0 hk0), HN.out.2.imp id (fun h j x2 y2 hj hj2 => by
                    rcases Nat.lt_or_ge j k with h1 | h1
                    · exact h j x2 y2 h1 hj2
                    · obtain rfl : j = k := by omega
                      rw [hG.out] at hj2; cases hj2; omega), hbw.trans (Below.drewN' ((Below.refl _ _).alloc (by omega) _) _)⟩
                case measure => simp [intOf]; omega
            · have hcd : decide (0 < c) = false := by simp; omega
              go_wp2
              go_quiet (fail)
              go_wp2
              go_roundw
              case rel => exact ⟨k + 1, by omega, by go_num, HN.out.1.next hG.out HR.out (fun x2 y2 h0 _ => absurd h0 hk0), .inl (by omega), hbw.trans (Below.drewN' ((Below.refl _ _).alloc (by omega) _) _)⟩
              case measure => simp [intOf]; omega
        · have hbad := Lib.hid (vldB_ok (c := c) (okB_bad hG.out hr))
          have hcases : x < -65536 ∨ (decide (x < -65536) = false ∧ 8 ≤ x) ∨ (decide (x < -65536) = false ∧ decide (8 ≤ x) = false ∧ y < 0) ∨ (decide (x < -65536) = false ∧ decide (8 ≤ x) = false ∧ decide (y < 0) = false ∧ 100 < y) := by
            simp only [decide_eq_false_iff_not]; omega
          clear hr
          subst hA
          rcases hcases with h1 | ⟨h1, h2⟩ | ⟨h1, h2, h3⟩ | ⟨h1, h2, h3, h4⟩
          all_goals
            go_wp2
            go_ret
            exact ⟨ret_bool hbad.out.symm, hfr.trans ((Below.refl _ _).alloc (by omega) _)⟩
      · obtain rfl : k = vs.length := by omega
        go_wp2
        go_ret
        exact ⟨ret_bool (vldB_all c1 c2 HN.out.1 HN.out.2).symm, hfr⟩
  · have hbad := Lib.hid (vldB_const (vs := vs) hc)
    have hcases : c < 0 ∨ (decide (c < 0) = false ∧ 100 < c) := by
      simp only [decide_eq_false_iff_not]; omega
    clear hc
    rcases hcases with h1 | ⟨h1, h2⟩
    all_goals
      go_enter Tryd.func72, Tryd.ntmps72
      go_wp2
      go_ret
      exact ⟨ret_bool hbad.out.symm, (Below.refl _ _).alloc (Nat.le_refl _) _⟩

/-- Two levels are the same. -/
def sameB (c1 : Int) (v1 : List (Int × Int)) (c2 : Int) (v2 : List (Int × Int)) : Bool := decide (c1 = c2) && decide (v1 = v2)
theorem sameB_refl (c : Int) (vs : List (Int × Int)) : sameB c vs c vs = true := by simp [sameB]
/-- The first k elements agree. -/
def AgreeTo (v1 v2 : List (Int × Int)) (k : Nat) : Prop := ∀ j, j < k → v1[j]? = v2[j]?
theorem sameB_end {c : Int} {v1 v2 : List (Int × Int)} (hl : v1.length = v2.length) (h : AgreeTo v1 v2 v1.length) : sameB c v1 c v2 = true := by
  have : v1 = v2 := List.ext_getElem? fun j => by
    rcases Nat.lt_or_ge j v1.length with h1 | h1
    · exact h j h1
    · rw [List.getElem?_eq_none h1, List.getElem?_eq_none (by omega)]
  simp [sameB, this]
theorem sameB_no {c1 c2 : Int} {v1 v2 : List (Int × Int)} {k : Nat} (h : v1[k]? ≠ v2[k]?) : sameB c1 v1 c2 v2 = false := by
  have : v1 ≠ v2 := fun e => h (by rw [e])
  simp [sameB, this]
theorem sameB_len {c1 c2 : Int} {v1 v2 : List (Int × Int)} (h : v1.length ≠ v2.length) : sameB c1 v1 c2 v2 = false := by
  have : v1 ≠ v2 := fun e => h (by rw [e])
  simp [sameB, this]
theorem sameB_const {c1 c2 : Int} {v1 v2 : List (Int × Int)} (h : c1 ≠ c2) : sameB c1 v1 c2 v2 = false := by simp [sameB, h]

set_option maxRecDepth 100000 in
set_option maxHeartbeats 2000000 in
theorem rsame_any (c1 : Int) (A1 : Option Addr) (cap1 : Nat) (v1 : List (Int × Int)) (c2 : Int) (A2 : Option Addr) (cap2 : Nat) (v2 : List (Int × Int)) (B : Nat) (w : World) (hv1 : VA w B A1 v1) (hv2 : VA w B A2 v2) (hB : B ≤ w.heap.size) :
    Calls Tryd.prog 61 #[.agg #[.int .i64 c1, .slice A1 v1.length cap1], .agg #[.int .i64 c2, .slice A2 v2.length cap2]] w fun e w' => e = .returned (.bool (sameB c1 v1 c2 v2)) ∧ Below w.heap.size w w' := by
  have hlen1 := hv1.len
  have hlen2 := hv2.len
  by_cases hcc : c1 = c2
  · subst hcc
    by_cases hll : v1.length = v2.length
    · have hln : (v1.length : Int) = (v2.length : Int) := by omega
      have hl12 := Lib.hid hll
      have hq : ((v1.length : Int) != (v2.length : Int)) = false := by simp [hln]
      clear hll hln
      go_enter Tryd.func61, Tryd.ntmps61
      go_wp2
      go_loopw [5] (fun i wr => ∃ k : Nat, k ≤ v1.length ∧ i = .int .i64 k ∧ AgreeTo v1 v2 k ∧ Below (w.heap.size + 2) ((w.alloc (.cells #[.int .i64 c1, .slice A1 v1.length cap1] 52)).alloc (.cells #[.int .i64 c1, .slice A2 v2.length cap2] 52)) wr) (fun i _ => v1.length - (intOf i).toNat)
      case atStart => exact ⟨0, Nat.zero_le _, rfl, fun j h => absurd h (by omega), Below.refl _ _⟩
      case round =>
        obtain ⟨k, hk, rfl, hn, hbw⟩ := hrel
        have HN := Lib.hid hn
        clear hn
        have hl0 : wr.cell? ⟨w.heap.size, 1, none⟩ = some (.slice A1 v1.length cap1) := (hbw.cell (p := ⟨w.heap.size, 1, none⟩) (by simp)).trans (by go_simp)
        have hl1 : wr.cell? ⟨w.heap.size + 1, 1, none⟩ = some (.slice A2 v2.length cap2) := (hbw.cell (p := ⟨w.heap.size + 1, 1, none⟩) (by simp)).trans (by go_simp)
        have hfr : Below w.heap.size w wr := (((Below.refl _ _).alloc (Nat.le_refl _) _).alloc (by simp) _).trans (hbw.mono (by simp))
        have hvr1 := hv1.below hfr hB
        have hvr2 := hv2.below hfr hB
        by_cases hlt : k < v1.length
        · have hlt2 : k < v2.length := by have := hl12.out; omega
          obtain ⟨b1, off1, x1, y1, rfl, hb1, hg1, hc0, hc1⟩ := hvr1.at_ hlt
          obtain ⟨b2, off2, x2, y2, rfl, hb2, hg2, hd0, hd1⟩ := hvr2.at_ hlt2
          have hG := Lib.hid (And.intro hg1 hg2)
          clear hg1 hg2
          by_cases he : x1 = x2 ∧ y1 = y2
          · obtain ⟨rfl, rfl⟩ := he
            go_wp2
            go_quiet (fail)
            go_wp2
            go_roundw
            case rel => exact ⟨k + 1, by omega, by go_num, fun j hj => by
                rcases Nat.lt_or_ge j k with h1 | h1
                · exact HN.out j h1
                · obtain rfl : j = k := by omega
                  rw [hG.out.1, hG.out.2], Below.drewN' hbw _⟩
            case measure => simp [intOf]; omega
          · have hbad := Lib.hid (sameB_no (c1 := c1) (c2 := c1) (v1 := v1) (v2 := v2) (k := k) (by rw [hG.out.1, hG.out.2]; simpa using he))
            have hcases : (x1 == x2) = false ∨ (x1 = x2 ∧ (y1 == y2) = false) := by
              simp only [beq_eq_false_iff_ne]; omega
            clear he
            rcases hcases with h1 | ⟨rfl, h1⟩
            all_goals
              go_wp2
              go_quiet (fail)
              go_wp2
              go_ret
              exact ⟨ret_bool hbad.out.symm, Below.drewN' hfr _⟩
        · obtain rfl : k = v1.length := by omega
          have hgood := Lib.hid (sameB_end (c := c1) hl12.out HN.out)
          go_wp2
          go_ret
          exact ⟨ret_bool hgood.out.symm, hfr⟩
    · have hbad := Lib.hid (sameB_len (c1 := c1) (c2 := c1) hll)
      have hq : ((v1.length : Int) != (v2.length : Int)) = true := by simp; omega
      go_enter Tryd.func61, Tryd.ntmps61
      go_wp2
      go_ret
      exact ⟨ret_bool hbad.out.symm, ((Below.refl _ _).alloc (Nat.le_refl _) _).alloc (by simp) _⟩
  · have hbad := Lib.hid (sameB_const (v1 := v1) (v2 := v2) hcc)
    have hq : (c1 != c2) = true := by simpa using hcc
    go_enter Tryd.func61, Tryd.ntmps61
    go_wp2
    go_ret
    exact ⟨ret_bool hbad.out.symm, ((Below.refl _ _).alloc (Nat.le_refl _) _).alloc (by simp) _⟩
end Go.Proofs.YtbiifkpelldciaaDoor
