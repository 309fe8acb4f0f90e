/- Free and Occurs of the reference. -/
import Derived.Test.YtbiifkpelldciaaDoorRfe
namespace Go.Proofs.YtbiifkpelldciaaDoor
open Go.RowKit

set_option maxRecDepth 100000 in
set_option maxHeartbeats 4000000 in
theorem rFree_any (t : Tm) (v : Value) (B : Nat) (w : World) (hv : TmV w B t v) (hB : B ≤ w.heap.size) (hsz : szT t ≤ 1000000000) :
    Calls Tryd.prog 25 #[v] w (GivesIA (freeT t) w) := by
  have hv0 := hv
  obtain ⟨k, i, nm, AL, nl, cl, AK, ck, rfl, _, _⟩ := hv.open_
  have B0 := Lib.hid (BxT.start hv0 hB)
  have HI := Lib.hid (show ∀ W, TmV W B t (.agg #[.int .i64 k, .int .i64 i, .string nm, .slice AL nl cl, .slice AK t.kids.length ck]) → B ≤ W.heap.size → Calls Tryd.prog 47 #[.slice none 0 0, .agg #[.int .i64 k, .int .i64 i, .string nm, .slice AL nl cl, .slice AK t.kids.length ck], .int .i64 0] W (GivesIA (freeT t) W) from fun W hq hBW =>
    rfree_any (szT t) t _ 0 1 B W.heap.size [] none 0 W (Nat.le_refl _) (by omega) (by simpa using hsz) List.Pairwise.nil ⟨by simp, fun h => by simp at h⟩ (Nat.le_refl _) hq hBW)
  clear hv hv0
  obtain ⟨x0, x1, x2, x3, x4, _, _, _, _⟩ := B0.out
  go_enter Tryd.func25, Tryd.ntmps25
  go_wp2_with fail
  refine (HI.out _ B0.out.tm B0.out.size).mono ?_
  rintro e w1 ⟨A1, cap1, rfl, hia1, hb1⟩
  have HX := Lib.hid (And.intro hia1 (B0.out.next hb1).below)
  clear hia1 hb1
  go_wp2_with fail
  go_ret
  exact ⟨A1, cap1, rfl, HX.out.1, HX.out.2⟩

set_option maxRecDepth 100000 in
set_option maxHeartbeats 4000000 in
theorem roccurs_any (t : Tm) (v : Value) (x : Int) (B : Nat) (w : World) (hv : TmV w B t v) (hB : B ≤ w.heap.size) (hsz : szT t ≤ 1000000000) :
    Calls Tryd.prog 27 #[v, .int .i64 x] w fun e w' => e = .returned (.bool (decide (x ∈ freeT t))) ∧ Below w.heap.size w w' := by
  have hv0 := hv
  obtain ⟨k, i, nm, AL, nl, cl, AK, ck, rfl, _, _⟩ := hv.open_
  have B0 := Lib.hid (BxT.start hv0 hB)
  have hfl := freeS_length (preT t 0 1)
  rw [preT_length] at hfl
  clear hv hv0
  obtain ⟨x0, x1, x2, x3, x4, _, _, _, _⟩ := B0.out
  go_enter Tryd.func27, Tryd.ntmps27
  go_wp2_with fail
  refine (rFree_any t _ B _ B0.out.tm B0.out.size hsz).mono ?_
  rintro e w1 ⟨A1, cap1, rfl, hia1, hb1⟩
  have HIA := Lib.hid hia1
  have HBE := Lib.hid (B0.out.next hb1).below
  have hfl' : (freeT t).length ≤ 1000000000 := by unfold freeT; omega
  clear hia1 hb1 hfl
  obtain ⟨S, hS⟩ : ∃ S, freeT t = S := ⟨_, rfl⟩
  have HS := Lib.hid hS
  rw [hS] at HIA hfl'
  rw [hS]
  clear hS
  go_wp2_with fail
  go_loopw [6] (fun s6 wx => ∃ (j : Nat), j ≤ S.length ∧ s6 = .int .i64 (j : Int) ∧ x ∉ S.take j ∧ wx = w1) (fun s6 _ => S.length - (intOf s6).toNat)
  case atStart => exact ⟨0, Nat.zero_le _, rfl, by simp, rfl⟩
  case round =>
    obtain ⟨j, hj, rfl, hx, rfl⟩ := hrel
    have HX := Lib.hid hx
    clear hx
    by_cases hjl : j < S.length
    · obtain ⟨b, off, rfl, hbB, hc⟩ := HIA.out.at_ hjl
      have hg : S.getD j 0 = S[j] := by rw [List.getD_eq_getElem?_getD, List.getElem?_eq_getElem hjl]; rfl
      have ht : S.take (j + 1) = S.take j ++ [S[j]] := by rw [List.take_succ_eq_append_getElem hjl]
      rw [hg] at hc
      have HT := Lib.hid ht
      have HM : Hid (S[j] ∈ S) := Lib.hid (List.getElem_mem hjl)
      clear hg ht
      generalize S[j] = y at *
      by_cases hxy : y = x
      · subst hxy
        have HQ : Hid (decide (y ∈ S) = true) := Lib.hid (decide_eq_true HM.out)
        go_wp2
        go_ret
        exact ⟨ret_bool (by rw [HS.out]; exact HQ.out.symm), HBE.out⟩
      · have HXY : Hid (x ∉ S.take (j + 1)) := Lib.hid (by
          rw [HT.out, List.mem_append, List.mem_singleton]
          rintro (h | h)
          · exact HX.out h
          · exact hxy h.symm)
        have dxy : (y == x) = false := by simpa using hxy
        clear hxy
        go_wp2
        go_roundw
        case rel => exact ⟨j + 1, hjl, by go_num, HXY.out, trivial⟩
        case measure => simp [intOf]; omega
    · have he : S.take j = S := List.take_of_length_le (by omega)
      have hd2 : decide ((j : Int) < (S.length : Int)) = false := by rw [decide_eq_false_iff_not]; omega
      rw [he] at HX
      have HQ : Hid (decide (x ∈ S) = false) := Lib.hid (decide_eq_false HX.out)
      clear he
      go_wp2
      go_ret
      exact ⟨ret_bool (by rw [HS.out]; exact HQ.out.symm), HBE.out⟩
end Go.Proofs.YtbiifkpelldciaaDoor
