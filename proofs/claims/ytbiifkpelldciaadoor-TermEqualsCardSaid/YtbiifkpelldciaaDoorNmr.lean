/- Names: the walk of Name of the reference. -/
import Derived.Test.YtbiifkpelldciaaDoorNmw
namespace Go.Proofs.YtbiifkpelldciaaDoor
open Go.RowKit

theorem bytes_nil {s : ByteArray} (h : s.size = 0) : s = ⟨#[]⟩ := by
  cases s with
  | mk a =>
    have : a.size = 0 := h
    rw [Array.eq_empty_of_size_eq_zero this]
theorem ba_loop (a : ByteArray) : ∀ (n i : Nat) (r : List UInt8), a.size - i = n → ByteArray.toList.loop a i r = r.reverse ++ a.data.toList.drop i := by
  intro n
  induction n with
  | zero =>
    intro i r h
    rw [ByteArray.toList.loop, if_neg (by omega), List.drop_eq_nil_of_le (by simp; omega), List.append_nil]
  | succ n ih =>
    intro i r h
    have hi : i < a.size := by omega
    have hl : i < a.data.toList.length := by simpa using hi
    rw [ByteArray.toList.loop, if_pos hi, ih (i + 1) _ (by omega), List.drop_eq_getElem_cons hl]
    have hg : a.get! i = a.data.toList[i] := by
      show a.data[i]! = _
      have hd : i < a.data.size := hi
      rw [getElem!_pos a.data i hd]; simp
    rw [hg]
    simp
theorem ba_list (a : ByteArray) : a.toList = a.data.toList := by
  show ByteArray.toList.loop a 0 [] = _
  rw [ba_loop a a.size 0 [] rfl]
  simp
theorem ba_none {s : ByteArray} (h : s.size ≠ 0) : (s.toList == []) = false := by
  rw [beq_eq_false_iff_ne, ba_list]
  intro e
  apply h
  have : s.data.toList.length = 0 := by rw [e]; rfl
  simpa using this

set_option maxRecDepth 100000 in
set_option maxHeartbeats 2000000 in
theorem rname_any (s : ByteArray) (w : World) : Calls Tryd.prog 13 #[.string s] w fun e w' => e = .returned (.bool (nameB s)) ∧ w' = w := by
  by_cases h0 : s.size = 0
  · obtain rfl := bytes_nil h0
    rw [show nameB ⟨#[]⟩ = false from rfl]
    go_enter Tryd.func13, Tryd.ntmps13
    go_wp2
    go_ret
    exact ⟨rfl, rfl⟩
  · have hn0 := ba_none h0
    by_cases h64 : 64 < s.size
    · rw [name_long h64]
      have hd : decide (64 < (s.size : Int)) = true := by rw [decide_eq_true_eq]; omega
      go_enter Tryd.func13, Tryd.ntmps13
      go_wp2
      go_ret
      exact ⟨rfl, rfl⟩
    · have hs : s.size ≤ 64 := by omega
      have hd : decide (64 < (s.size : Int)) = false := by rw [decide_eq_false_iff_not]; omega
      rw [name_all hs]
      go_enter Tryd.func13, Tryd.ntmps13
      go_wp2_with fail
      go_loopw [3, 4] (fun v3 v4 wr => ∃ (k : Nat) (f : Bool), v3 = .bool f ∧ v4 = .int .i64 (k : Int) ∧ k ≤ s.size ∧ Hid (nmGo (s.data.toList.drop k) f = nmGo (s.data.toList.drop 0) true) ∧ wr = w) (fun _ v4 _ => s.size - (intOf v4).toNat)
      case atStart => exact ⟨0, true, rfl, rfl, Nat.zero_le _, Lib.hid rfl, rfl⟩
      case round =>
        obtain ⟨k, f, rfl, rfl, hk, hx, rfl⟩ := hrel
        by_cases hlt : k < s.size
        · clear hn0
          cases f with
          | true =>
            cases hU : chU (s[k].toNat : Int) with
            | true =>
              have st := Lib.hid (nm_low hlt hU true)
              go_wp2_with fail
              refine (rletter_any _ _).mono ?_
              rintro e w' ⟨rfl, rfl⟩
              rw [hU]
              clear hU
              go_wp2
              go_roundw
              case rel => exact ⟨k + 1, false, rfl, by congr 1, by omega, Lib.hid ((st.out).symm.trans hx.out), trivial⟩
              case measure => simp [intOf]; omega
            | false =>
              have st := Lib.hid (nm_stop hlt hU)
              go_wp2_with fail
              refine (rletter_any _ _).mono ?_
              rintro e w' ⟨rfl, rfl⟩
              rw [hU]
              clear hU
              go_wp2
              go_ret
              exact ⟨ret_bool ((st.out).symm.trans hx.out), rfl⟩
          | false =>
            cases h46 : ((s[k].toNat : Int) == 46) with
            | true =>
              have st := Lib.hid (nm_dot hlt h46)
              go_wp2
              go_roundw
              case rel => exact ⟨k + 1, true, rfl, by congr 1, by omega, Lib.hid ((st.out).symm.trans hx.out), trivial⟩
              case measure => simp [intOf]; omega
            | false =>
              cases hU : chU (s[k].toNat : Int) with
              | true =>
                have st := Lib.hid (nm_low hlt hU false)
                go_wp2_with fail
                refine (rletter_any _ _).mono ?_
                rintro e w' ⟨rfl, rfl⟩
                rw [hU]
                clear hU
                go_wp2
                go_roundw
                case rel => exact ⟨k + 1, false, rfl, by congr 1, by omega, Lib.hid ((st.out).symm.trans hx.out), trivial⟩
                case measure => simp [intOf]; omega
              | false =>
                rcases chN_ways (s[k].toNat : Int) with ⟨g1, gn⟩ | ⟨g1, g2, gn⟩ | ⟨g1, g2, g3, gn⟩ | ⟨g1, g2, g3, gn⟩
                · have st := Lib.hid (nm_in hlt hU h46 gn)
                  have g0 : ((s[k].toNat : Int) != 39) = false := by unfold bne; rw [g1]; rfl
                  clear gn
                  go_wp2_with fail
                  refine (rletter_any _ _).mono ?_
                  rintro e w' ⟨rfl, rfl⟩
                  rw [hU]
                  clear hU
                  go_wp2
                  go_roundw
                  case rel => exact ⟨k + 1, false, rfl, by congr 1, by omega, Lib.hid ((st.out).symm.trans hx.out), trivial⟩
                  case measure => simp [intOf]; omega
                · have st := Lib.hid (nm_bad hlt hU h46 gn)
                  have g0 : ((s[k].toNat : Int) != 39) = true := by unfold bne; rw [g1]; rfl
                  clear gn
                  go_wp2_with fail
                  refine (rletter_any _ _).mono ?_
                  rintro e w' ⟨rfl, rfl⟩
                  rw [hU]
                  clear hU
                  go_wp2
                  go_ret
                  exact ⟨ret_bool ((st.out).symm.trans hx.out), rfl⟩
                · have st := Lib.hid (nm_bad hlt hU h46 gn)
                  have g0 : ((s[k].toNat : Int) != 39) = true := by unfold bne; rw [g1]; rfl
                  clear gn
                  go_wp2_with fail
                  refine (rletter_any _ _).mono ?_
                  rintro e w' ⟨rfl, rfl⟩
                  rw [hU]
                  clear hU
                  go_wp2
                  go_ret
                  exact ⟨ret_bool ((st.out).symm.trans hx.out), rfl⟩
                · have st := Lib.hid (nm_in hlt hU h46 gn)
                  have g0 : ((s[k].toNat : Int) != 39) = true := by unfold bne; rw [g1]; rfl
                  clear gn
                  go_wp2_with fail
                  refine (rletter_any _ _).mono ?_
                  rintro e w' ⟨rfl, rfl⟩
                  rw [hU]
                  clear hU
                  go_wp2
                  go_roundw
                  case rel => exact ⟨k + 1, false, rfl, by congr 1, by omega, Lib.hid ((st.out).symm.trans hx.out), trivial⟩
                  case measure => simp [intOf]; omega
        · have st := Lib.hid (nm_end (s := s) (k := k) (by omega) f)
          have hd2 : decide ((k : Int) < (s.size : Int)) = false := by rw [decide_eq_false_iff_not]; omega
          go_wp2
          go_ret
          exact ⟨ret_bool (st.out.symm.trans hx.out), rfl⟩
end Go.Proofs.YtbiifkpelldciaaDoor
