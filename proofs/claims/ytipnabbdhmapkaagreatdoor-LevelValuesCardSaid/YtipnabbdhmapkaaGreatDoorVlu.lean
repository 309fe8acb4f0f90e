/- value: the value of a level, written out. -/
import Derived.Test.YtipnabbdhmapkaaGreatDoorBlp
import Derived.Test.YtipnabbdhmapkaaGreatDoorRef
namespace Go.Proofs.YtipnabbdhmapkaaGreatDoor
open Go.RowKit

/-- The slice of integers at address P reads, in w, as ps; its cells lie below block B. -/
def IA (w : World) (B : Nat) (P : Option Addr) (ps : List Int) : Prop :=
  ps.length * 8 ≤ 140737488355328 ∧ (0 < ps.length → ∃ b off, P = some ⟨b, off, none⟩ ∧ b < B ∧ ∀ j p, ps[j]? = some p → w.cell? ⟨b, off + j, none⟩ = some (.int .i64 p))
theorem IA.len {w : World} {B : Nat} {P : Option Addr} {ps : List Int} (h : IA w B P ps) : ps.length ≤ 17592186044416 := by have := h.1; omega
theorem IA.keep {w w' : World} {B : Nat} {P : Option Addr} {ps : List Int} (h : IA w B P ps) (hk : ∀ p : Addr, p.block < B → w'.cell? p = w.cell? p) : IA w' B P ps :=
  ⟨h.1, fun hn => by
    obtain ⟨b, off, e, hb, hc⟩ := h.2 hn
    exact ⟨b, off, e, hb, fun j p hj => (hk _ hb).trans (hc j p hj)⟩⟩
theorem IA.more {w : World} {B B' : Nat} {P : Option Addr} {ps : List Int} (h : IA w B P ps) (hB : B ≤ B') : IA w B' P ps :=
  ⟨h.1, fun hn => by
    obtain ⟨b, off, e, hb, hc⟩ := h.2 hn
    exact ⟨b, off, e, by omega, hc⟩⟩
theorem IA.below {w w' : World} {B B' : Nat} {P : Option Addr} {ps : List Int} (h : IA w B P ps) (hb : Below B' w w') (hB : B ≤ B') : IA w' B P ps := h.keep fun _ hp => hb.cell (by omega)
theorem IA.next0 {w w' : World} {P : Option Addr} {ps : List Int} (h : IA w w.heap.size P ps) (hb : Below w.heap.size w w') : IA w' w'.heap.size P ps := (h.below hb (Nat.le_refl _)).more hb.size
theorem IA.at_ {w : World} {B : Nat} {P : Option Addr} {ps : List Int} (h : IA w B P ps) {k : Nat} (hk : k < ps.length) : ∃ b off, P = some ⟨b, off, none⟩ ∧ b < B ∧ w.cell? ⟨b, off + k, none⟩ = some (.int .i64 (ps.getD k 0)) := by
  obtain ⟨b, off, e, hb, hc⟩ := h.2 (by omega)
  refine ⟨b, off, e, hb, hc k _ ?_⟩
  rw [List.getD_eq_getElem?_getD, List.getElem?_eq_getElem hk]
  rfl
theorem IA.three {w : World} {b : Nat} {p0 p1 p2 : Int} (h0 : w.cell? ⟨b, 0, none⟩ = some (.int .i64 p0)) (h1 : w.cell? ⟨b, 1, none⟩ = some (.int .i64 p1)) (h2 : w.cell? ⟨b, 2, none⟩ = some (.int .i64 p2)) (hb : b < w.heap.size) : IA w w.heap.size (some ⟨b, 0, none⟩) [p0, p1, p2] :=
  ⟨by simp, fun _ => ⟨b, 0, rfl, hb, fun j p hj => by
    rcases j with _ | _ | _ | j
    · simp at hj
      subst hj
      simpa using h0
    · simp at hj
      subst hj
      simpa using h1
    · simp at hj
      subst hj
      simpa using h2
    · simp at hj⟩⟩

theorem valB_no {ps : List Int} {c : Int} {vs : List (Int × Int)} (h : vldB c vs = false) : valB ps c vs = -1 := by simp [valB, h]
theorem valB_yes {ps : List Int} {c : Int} {vs : List (Int × Int)} (h : vldB c vs = true) : valB ps c vs = evL ps vs c := by simp [valB, h]

set_option maxRecDepth 100000 in
set_option maxHeartbeats 2000000 in
theorem value_any (c : Int) (A : Option Addr) (cap : Nat) (vs : List (Int × Int)) (P : Option Addr) (capp : Nat) (ps : List Int) (B : Nat) (w : World) (hv : VA w B A vs) (hi : IA w B P ps) (hB : B ≤ w.heap.size) (hps : ∀ k, 0 ≤ ps.getD k 0 ∧ ps.getD k 0 ≤ 1000000000) :
    Calls Tryz.prog 44 #[.agg #[.int .i64 c, .slice A vs.length cap], .slice P ps.length capp] w fun e w' => e = .returned (.int .i64 (valB ps c vs)) ∧ Below w.heap.size w w' := by
  have hlen := hv.len
  have hlen2 := hi.len
  go_enter Tryz.func44, Tryz.ntmps44
  go_wp2_with fail
  refine (rvalid_any c A cap vs B _ (hv.alloc hB _) (by simp; omega)).mono ?_
  rintro e w1 ⟨rfl, hb1⟩
  have l0 : w1.cell? ⟨w.heap.size, 0, none⟩ = some (.int .i64 c) := (hb1.cell (p := ⟨w.heap.size, 0, none⟩) (by simp)).trans (by go_simp)
  have l1 : w1.cell? ⟨w.heap.size, 1, none⟩ = some (.slice A vs.length cap) := (hb1.cell (p := ⟨w.heap.size, 1, none⟩) (by simp)).trans (by go_simp)
  have hf1 : Below w.heap.size w w1 := ((Below.refl _ _).alloc (Nat.le_refl _) _).trans (hb1.mono (by simp))
  clear hb1
  rcases hvd : vldB c vs with _ | _
  · have HV := Lib.hid (valB_no (ps := ps) hvd)
    clear hvd
    go_wp2
    go_ret
    exact ⟨ret_int HV.out.symm, hf1⟩
  · have HV := Lib.hid (valB_yes (ps := ps) hvd)
    have HO := Lib.hid (vld_le hvd).2
    clear hvd
    have HF1 := Lib.hid hf1
    clear hf1
    go_wp2
    go_loopw [5, 16] (fun n i wr => ∃ (k : Nat) (m : Int), k ≤ vs.length ∧ n = .int .i64 m ∧ i = .int .i64 k ∧ evL ps (vs.drop k) m = evL ps vs c ∧ Below w.heap.size w wr) (fun _ i _ => vs.length - (intOf i).toNat)
    case atStart => exact ⟨0, c, Nat.zero_le _, rfl, rfl, rfl, HF1.out⟩
    case round =>
      obtain ⟨k, m, hk, rfl, rfl, hev, hbw⟩ := hrel
      have HE := Lib.hid hev
      clear hev
      have hsz : w.heap.size ≤ wr.heap.size := hbw.size
      by_cases hlt : k < vs.length
      · obtain ⟨b, off, x, y, hA, hb, hg, hc0, hc1⟩ := (hv.below hbw hB).at_ hlt
        have hy := HO.out (x, y) (List.mem_of_getElem? hg)
        have HD := Lib.hid (evL_drop (ps := ps) (n := m) hg)
        clear hg
        subst hA
        obtain ⟨hy1, hy2⟩ := hy
        simp only at hy1 hy2
        by_cases hin : 0 ≤ x ∧ x < (ps.length : Int)
        · have HIN := Lib.hid hin
          obtain ⟨hx1, hx2⟩ := hin
          obtain ⟨xn, rfl⟩ : ∃ xn : Nat, x = (xn : Int) := ⟨x.toNat, by omega⟩
          have hxn : xn < ps.length := by omega
          obtain ⟨pb, poff, rfl, hpb, hpc⟩ := (hi.below hbw hB).at_ hxn
          have hp12 := hps xn
          generalize hpv : ps.getD xn 0 = pv at *
          obtain ⟨hp1, hp2⟩ := hp12
          have HP := Lib.hid hpv
          clear hpv
          have hpa : ∀ o, (wr.alloc o).cell? ⟨pb, poff + xn, none⟩ = some (.int .i64 pv) := fun o => (World.cell?_alloc_lt wr o ⟨pb, poff + xn, none⟩ (by show pb < wr.heap.size; omega)).trans hpc
          have d1 : decide ((xn : Int) < 0) = false := by simp
          have d2 : decide ((ps.length : Int) ≤ (xn : Int)) = false := by simp; omega
          go_wp2
          go_quiet (fail)
          go_wp2
          go_roundw
          case rel => exact ⟨k + 1, max m (pv + y), by omega, congrArg (Value.int .i64) (by split <;> omega), by go_num, by rw [← HE.out, HD.out, if_pos HIN.out, Int.toNat_natCast, HP.out], hbw.trans (Below.drewN' ((Below.refl _ _).alloc (by omega) _) _)⟩
          case measure => simp [intOf]; omega
        · have HR := Lib.hid (show valB ps c vs = -1 by rw [HV.out, ← HE.out, HD.out, if_neg hin])
          have hcases : x < 0 ∨ (decide (x < 0) = false ∧ (ps.length : Int) ≤ x) := by
            simp only [decide_eq_false_iff_not]; omega
          clear hin
          rcases hcases with h1 | ⟨h1, h2⟩
          all_goals
            go_wp2
            go_ret
            exact ⟨ret_int HR.out.symm, hbw.trans ((Below.refl _ _).alloc (by omega) _)⟩
      · obtain rfl : k = vs.length := by omega
        go_wp2
        go_ret
        exact ⟨ret_int (by rw [HV.out, ← HE.out]; simp [evL]), hbw⟩

theorem value3_any (c : Int) (A : Option Addr) (cap : Nat) (vs : List (Int × Int)) (pb capp : Nat) (p0 p1 p2 : Int) (w : World) (hv : VA w w.heap.size A vs) (hi : IA w w.heap.size (some ⟨pb, 0, none⟩) [p0, p1, p2]) (h0 : 0 ≤ p0 ∧ p0 ≤ 1000000000) (h1 : 0 ≤ p1 ∧ p1 ≤ 1000000000) (h2 : 0 ≤ p2 ∧ p2 ≤ 1000000000) :
    Calls Tryz.prog 44 #[.agg #[.int .i64 c, .slice A vs.length cap], .slice (some ⟨pb, 0, none⟩) 3 capp] w fun e w' => e = .returned (.int .i64 (valB [p0, p1, p2] c vs)) ∧ Below w.heap.size w w' :=
  value_any c A cap vs (some ⟨pb, 0, none⟩) capp [p0, p1, p2] w.heap.size w hv hi (Nat.le_refl _) fun k => by
    rcases k with _ | _ | _ | k
    · simpa using h0
    · simpa using h1
    · simpa using h2
    · simp
end Go.Proofs.YtipnabbdhmapkaaGreatDoor
