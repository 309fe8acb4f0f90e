/- Names: the walks of Name of the program and of the reference. -/
import Derived.Test.YtbiifkpelldciaaDoorNam
namespace Go.Proofs.YtbiifkpelldciaaDoor
open Go.RowKit

section
variable {s : ByteArray} {k : Nat}
theorem drop_at (hk : k < s.size) : s.data.toList.drop k = s[k] :: s.data.toList.drop (k + 1) := by
  have hl : k < s.data.toList.length := by simpa using hk
  rw [List.drop_eq_getElem_cons hl]
  rfl
theorem nm_low (hk : k < s.size) (h : chU (s[k].toNat : Int) = true) (f : Bool) : nmGo (s.data.toList.drop k) f = nmGo (s.data.toList.drop (k + 1)) false := by
  rw [drop_at hk]; simp only [nmGo, h, if_true]
theorem nm_stop (hk : k < s.size) (h : chU (s[k].toNat : Int) = false) : nmGo (s.data.toList.drop k) true = false := by
  rw [drop_at hk]; simp [nmGo, h]
theorem nm_dot (hk : k < s.size) (h2 : ((s[k].toNat : Int) == 46) = true) : nmGo (s.data.toList.drop k) false = nmGo (s.data.toList.drop (k + 1)) true := by
  rw [drop_at hk]; simp only [nmGo, eq_of_beq h2]; rfl
theorem nm_in (hk : k < s.size) (h : chU (s[k].toNat : Int) = false) (h2 : ((s[k].toNat : Int) == 46) = false) (h3 : chN (s[k].toNat : Int) = true) : nmGo (s.data.toList.drop k) false = nmGo (s.data.toList.drop (k + 1)) false := by
  have hne : ¬ (s[k].toNat : Int) = 46 := by simpa using h2
  rw [drop_at hk, nmGo, h, if_neg (by decide), if_neg (by decide), if_neg hne, if_pos h3]
theorem nm_bad (hk : k < s.size) (h : chU (s[k].toNat : Int) = false) (h2 : ((s[k].toNat : Int) == 46) = false) (h3 : chN (s[k].toNat : Int) = false) : nmGo (s.data.toList.drop k) false = false := by
  have hne : ¬ (s[k].toNat : Int) = 46 := by simpa using h2
  rw [drop_at hk, nmGo, h, if_neg (by decide), if_neg (by decide), if_neg hne, h3, if_neg (by decide)]
theorem nm_end (hk : s.size ≤ k) (f : Bool) : nmGo (s.data.toList.drop k) f = !f := by
  rw [List.drop_eq_nil_of_le (by simpa using hk)]; rfl
end
theorem name_all {s : ByteArray} (h : s.size ≤ 64) : nameB s = nmGo (s.data.toList.drop 0) true := by
  unfold nameB; rw [decide_eq_true h]; rfl
theorem name_long {s : ByteArray} (h : 64 < s.size) : nameB s = false := by
  unfold nameB; rw [decide_eq_false (by omega)]; rfl
/-- The ways of a byte that is no letter and no dot. -/
theorem chN_ways (x : Int) : ((x == 39) = true ∧ chN x = true) ∨ ((x == 39) = false ∧ decide (x < 48) = true ∧ chN x = false) ∨ ((x == 39) = false ∧ decide (x < 48) = false ∧ decide (57 < x) = true ∧ chN x = false) ∨ ((x == 39) = false ∧ decide (x < 48) = false ∧ decide (57 < x) = false ∧ chN x = true) := by
  unfold chN
  by_cases h1 : x = 39
  · left; subst h1; exact ⟨rfl, rfl⟩
  · right
    have e1 : (x == 39) = false := by rw [beq_eq_false_iff_ne]; exact h1
    by_cases h2 : x < 48
    · left; exact ⟨e1, decide_eq_true h2, by rw [decide_eq_false h1, decide_eq_false (show ¬ 48 ≤ x by omega)]; rfl⟩
    · right
      by_cases h3 : 57 < x
      · left; exact ⟨e1, decide_eq_false h2, decide_eq_true h3, by rw [decide_eq_false h1, decide_eq_false (show ¬ x ≤ 57 by omega)]; simp⟩
      · right; exact ⟨e1, decide_eq_false h2, decide_eq_false h3, by rw [decide_eq_true (show 48 ≤ x by omega), decide_eq_true (show x ≤ 57 by omega)]; simp⟩
theorem chU_of (x : Int) : chU x = (chL x || (x == 95)) := by unfold chU; congr 1

set_option maxRecDepth 100000 in
set_option maxHeartbeats 2000000 in
theorem name_any (s : ByteArray) (w : World) : Calls Tryd.prog 12 #[.string s] w fun e w' => e = .returned (.bool (nameB s)) ∧ w' = w := by
  by_cases h64 : 64 < s.size
  · rw [name_long h64]
    have hd : decide (64 < (s.size : Int)) = true := by rw [decide_eq_true_eq]; omega
    go_enter Tryd.func12, Tryd.ntmps12
    go_wp2
    go_ret
    exact ⟨rfl, rfl⟩
  · have hs : s.size ≤ 64 := by omega
    have hd : decide (64 < (s.size : Int)) = false := by rw [decide_eq_false_iff_not]; omega
    rw [name_all hs]
    go_enter Tryd.func12, Tryd.ntmps12
    go_wp2_with fail
    go_loopw [3, 11] (fun v3 v11 wr => ∃ (k : Nat) (f : Bool), v3 = .bool f ∧ v11 = .int .i64 (k : Int) ∧ k ≤ s.size ∧ Hid (nmGo (s.data.toList.drop k) f = nmGo (s.data.toList.drop 0) true) ∧ wr = w) (fun _ v11 _ => s.size - (intOf v11).toNat)
    case atStart => exact ⟨0, true, rfl, rfl, Nat.zero_le _, Lib.hid rfl, rfl⟩
    case round =>
      obtain ⟨k, f, rfl, rfl, hk, hx, rfl⟩ := hrel
      by_cases hlt : k < s.size
      · have hU := chU_of (s[k].toNat : Int)
        cases hL : chL (s[k].toNat : Int) with
        | true =>
          have hU' : chU (s[k].toNat : Int) = true := by rw [hU, hL]; rfl
          have st := Lib.hid (nm_low hlt hU' f)
          clear hU hU'
          go_wp2_with fail
          refine (tletter_any _ _).mono ?_
          rintro e w' ⟨rfl, rfl⟩
          rw [hL]
          clear hL
          go_wp2
          go_roundw
          case rel => exact ⟨k + 1, false, rfl, by congr 1, by omega, Lib.hid ((st.out).symm.trans hx.out), trivial⟩
          case measure => simp [intOf]; omega
        | false =>
          cases h95 : ((s[k].toNat : Int) == 95) with
          | true =>
            have hU' : chU (s[k].toNat : Int) = true := by rw [hU, hL, h95]; rfl
            have st := Lib.hid (nm_low hlt hU' f)
            clear hU hU'
            go_wp2_with fail
            refine (tletter_any _ _).mono ?_
            rintro e w' ⟨rfl, rfl⟩
            rw [hL]
            clear hL
            go_wp2
            go_roundw
            case rel => exact ⟨k + 1, false, rfl, by congr 1, by omega, Lib.hid ((st.out).symm.trans hx.out), trivial⟩
            case measure => simp [intOf]; omega
          | false =>
            have hU' : chU (s[k].toNat : Int) = false := by rw [hU, hL, h95]; rfl
            clear hU
            cases f with
            | true =>
              have st := Lib.hid (nm_stop hlt hU')
              clear hU'
              go_wp2_with fail
              refine (tletter_any _ _).mono ?_
              rintro e w' ⟨rfl, rfl⟩
              rw [hL]
              clear hL
              go_wp2
              go_ret
              exact ⟨ret_bool ((st.out).symm.trans hx.out), rfl⟩
            | false =>
              cases h46 : ((s[k].toNat : Int) == 46) with
              | true =>
                have st := Lib.hid (nm_dot hlt h46)
                clear hU'
                go_wp2_with fail
                refine (tletter_any _ _).mono ?_
                rintro e w' ⟨rfl, rfl⟩
                rw [hL]
                clear hL
                go_wp2
                go_roundw
                case rel => exact ⟨k + 1, true, rfl, by congr 1, by omega, Lib.hid ((st.out).symm.trans hx.out), trivial⟩
                case measure => simp [intOf]; omega
              | false =>
                rcases chN_ways (s[k].toNat : Int) with ⟨g1, gn⟩ | ⟨g1, g2, gn⟩ | ⟨g1, g2, g3, gn⟩ | ⟨g1, g2, g3, gn⟩
                · have st := Lib.hid (nm_in hlt hU' h46 gn)
                  have g0 : ((s[k].toNat : Int) != 39) = false := by unfold bne; rw [g1]; rfl
                  clear hU' gn
                  go_wp2_with fail
                  refine (tletter_any _ _).mono ?_
                  rintro e w' ⟨rfl, rfl⟩
                  rw [hL]
                  clear hL
                  go_wp2
                  go_roundw
                  case rel => exact ⟨k + 1, false, rfl, by congr 1, by omega, Lib.hid ((st.out).symm.trans hx.out), trivial⟩
                  case measure => simp [intOf]; omega
                · have st := Lib.hid (nm_bad hlt hU' h46 gn)
                  have g0 : ((s[k].toNat : Int) != 39) = true := by unfold bne; rw [g1]; rfl
                  clear hU' gn
                  go_wp2_with fail
                  refine (tletter_any _ _).mono ?_
                  rintro e w' ⟨rfl, rfl⟩
                  rw [hL]
                  clear hL
                  go_wp2
                  go_ret
                  exact ⟨ret_bool ((st.out).symm.trans hx.out), rfl⟩
                · have st := Lib.hid (nm_bad hlt hU' h46 gn)
                  have g0 : ((s[k].toNat : Int) != 39) = true := by unfold bne; rw [g1]; rfl
                  clear hU' gn
                  go_wp2_with fail
                  refine (tletter_any _ _).mono ?_
                  rintro e w' ⟨rfl, rfl⟩
                  rw [hL]
                  clear hL
                  go_wp2
                  go_ret
                  exact ⟨ret_bool ((st.out).symm.trans hx.out), rfl⟩
                · have st := Lib.hid (nm_in hlt hU' h46 gn)
                  have g0 : ((s[k].toNat : Int) != 39) = true := by unfold bne; rw [g1]; rfl
                  clear hU' gn
                  go_wp2_with fail
                  refine (tletter_any _ _).mono ?_
                  rintro e w' ⟨rfl, rfl⟩
                  rw [hL]
                  clear hL
                  go_wp2
                  go_roundw
                  case rel => exact ⟨k + 1, false, rfl, by congr 1, by omega, Lib.hid ((st.out).symm.trans hx.out), trivial⟩
                  case measure => simp [intOf]; omega
      · have st := Lib.hid (nm_end (s := s) (k := k) (by omega) f)
        have hd2 : decide ((k : Int) < (s.size : Int)) = false := by rw [decide_eq_false_iff_not]; omega
        go_wp2
        go_ret
        exact ⟨ret_bool (st.out.symm.trans hx.out), rfl⟩
end Go.Proofs.YtbiifkpelldciaaDoor
