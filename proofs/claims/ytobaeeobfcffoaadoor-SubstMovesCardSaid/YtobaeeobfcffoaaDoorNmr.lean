/- Names: Name of the program and of the reference. -/
import Derived.Test.YtobaeeobfcffoaaDoorW
/-! Names: Name of the program and of the reference. -/
namespace Go.Proofs.YtobaeeobfcffoaaDoor
open Go.RowKit

/-- A letter, by its number. -/
def chL (x : Int) : Bool := (decide (97 ≤ x) && decide (x ≤ 122)) || (decide (65 ≤ x) && decide (x ≤ 90))
def chU (x : Int) : Bool := chL x || decide (x = 95)
/-- What may stand inside a component beside letters. -/
def chN (x : Int) : Bool := decide (x = 39) || (decide (48 ≤ x) && decide (x ≤ 57))
/-- Whether the bytes go on a name; first: a component begins here. -/
def nmGo : List UInt8 → Bool → Bool
  | [], first => !first
  | c :: r, first => if chU c.toNat = true then nmGo r false else if first = true then false else if ((c.toNat : Int) = 46) then nmGo r true else if chN c.toNat = true then nmGo r false else false
def nameB (s : ByteArray) : Bool := decide (s.size ≤ 64) && nmGo s.data.toList true

set_option maxRecDepth 100000 in
set_option maxHeartbeats 1000000 in
theorem rletter_any (x : Int) (w : World) : Calls Tryd.prog 82 #[.int .u8 x] w fun e w' => e = .returned (.bool (chU x)) ∧ w' = w := by
  obtain ⟨b1, h1⟩ : ∃ b, decide (97 ≤ x) = b := ⟨_, rfl⟩
  obtain ⟨b2, h2⟩ : ∃ b, decide (x ≤ 122) = b := ⟨_, rfl⟩
  obtain ⟨b3, h3⟩ : ∃ b, decide (65 ≤ x) = b := ⟨_, rfl⟩
  obtain ⟨b4, h4⟩ : ∃ b, decide (x ≤ 90) = b := ⟨_, rfl⟩
  obtain ⟨b5, h5⟩ : ∃ b, (x == 95) = b := ⟨_, rfl⟩
  have hl : chU x = (((b1 && b2) || (b3 && b4)) || b5) := by
    unfold chU chL
    rw [h1, h2, h3, h4, ← h5]
    rfl
  rw [hl]
  clear hl
  cases b1 <;> cases b2 <;> cases b3 <;> cases b4 <;> cases b5 <;>
  · go_enter Tryd.func82, Tryd.ntmps82
    go_wp2
    go_ret
    exact ⟨rfl, rfl⟩
end Go.Proofs.YtobaeeobfcffoaaDoor

/-! Names: the walks of Name of the program and of the reference. -/
namespace Go.Proofs.YtobaeeobfcffoaaDoor
open Go.RowKit

section
variable {s : ByteArray} {k : Nat}
theorem drop_at (hk : k < s.size) : s.data.toList.drop k = s[k] :: s.data.toList.drop (k + 1) := by
  have hl : k < s.data.toList.length := by simpa using hk
  rw [List.drop_eq_getElem_cons hl]
  rfl
theorem nm_low (hk : k < s.size) (h : chU (s[k].toNat : Int) = true) (f : Bool) : nmGo (s.data.toList.drop k) f = nmGo (s.data.toList.drop (k + 1)) false := by
  rw [drop_at hk]; simp only [nmGo, h, if_true]
theorem nm_stop (hk : k < s.size) (h : chU (s[k].toNat : Int) = false) : nmGo (s.data.toList.drop k) true = false := by
  rw [drop_at hk]; simp [nmGo, h]
theorem nm_dot (hk : k < s.size) (h2 : ((s[k].toNat : Int) == 46) = true) : nmGo (s.data.toList.drop k) false = nmGo (s.data.toList.drop (k + 1)) true := by
  rw [drop_at hk]; simp only [nmGo, eq_of_beq h2]; rfl
theorem nm_in (hk : k < s.size) (h : chU (s[k].toNat : Int) = false) (h2 : ((s[k].toNat : Int) == 46) = false) (h3 : chN (s[k].toNat : Int) = true) : nmGo (s.data.toList.drop k) false = nmGo (s.data.toList.drop (k + 1)) false := by
  have hne : ¬ (s[k].toNat : Int) = 46 := by simpa using h2
  rw [drop_at hk, nmGo, h, if_neg (by decide), if_neg (by decide), if_neg hne, if_pos h3]
theorem nm_bad (hk : k < s.size) (h : chU (s[k].toNat : Int) = false) (h2 : ((s[k].toNat : Int) == 46) = false) (h3 : chN (s[k].toNat : Int) = false) : nmGo (s.data.toList.drop k) false = false := by
  have hne : ¬ (s[k].toNat : Int) = 46 := by simpa using h2
  rw [drop_at hk, nmGo, h, if_neg (by decide), if_neg (by decide), if_neg hne, h3, if_neg (by decide)]
theorem nm_end (hk : s.size ≤ k) (f : Bool) : nmGo (s.data.toList.drop k) f = !f := by
  rw [List.drop_eq_nil_of_le (by simpa using hk)]; rfl
end
theorem name_all {s : ByteArray} (h : s.size ≤ 64) : nameB s = nmGo (s.data.toList.drop 0) true := by
  unfold nameB; rw [decide_eq_true h]; rfl
theorem name_long {s : ByteArray} (h : 64 < s.size) : nameB s = false := by
  unfold nameB; rw [decide_eq_false (by omega)]; rfl
/-- The ways of a byte that is no letter and no dot. -/
theorem chN_ways (x : Int) : ((x == 39) = true ∧ chN x = true) ∨ ((x == 39) = false ∧ decide (x < 48) = true ∧ chN x = false) ∨ ((x == 39) = false ∧ decide (x < 48) = false ∧ decide (57 < x) = true ∧ chN x = false) ∨ ((x == 39) = false ∧ decide (x < 48) = false ∧ decide (57 < x) = false ∧ chN x = true) := by
  unfold chN
  by_cases h1 : x = 39
  · left; subst h1; exact ⟨rfl, rfl⟩
  · right
    have e1 : (x == 39) = false := by rw [beq_eq_false_iff_ne]; exact h1
    by_cases h2 : x < 48
    · left; exact ⟨e1, decide_eq_true h2, by rw [decide_eq_false h1, decide_eq_false (show ¬ 48 ≤ x by omega)]; rfl⟩
    · right
      by_cases h3 : 57 < x
      · left; exact ⟨e1, decide_eq_false h2, decide_eq_true h3, by rw [decide_eq_false h1, decide_eq_false (show ¬ x ≤ 57 by omega)]; simp⟩
      · right; exact ⟨e1, decide_eq_false h2, decide_eq_false h3, by rw [decide_eq_true (show 48 ≤ x by omega), decide_eq_true (show x ≤ 57 by omega)]; simp⟩
theorem chU_of (x : Int) : chU x = (chL x || (x == 95)) := by unfold chU; congr 1

end Go.Proofs.YtobaeeobfcffoaaDoor

/-! Names: the walk of Name of the reference. -/
namespace Go.Proofs.YtobaeeobfcffoaaDoor
open Go.RowKit

theorem bytes_nil {s : ByteArray} (h : s.size = 0) : s = ⟨#[]⟩ := by
  cases s with
  | mk a =>
    have : a.size = 0 := h
    rw [Array.eq_empty_of_size_eq_zero this]
theorem ba_loop (a : ByteArray) : ∀ (n i : Nat) (r : List UInt8), a.size - i = n → ByteArray.toList.loop a i r = r.reverse ++ a.data.toList.drop i := by
  intro n
  induction n with
  | zero =>
    intro i r h
    rw [ByteArray.toList.loop, if_neg (by omega), List.drop_eq_nil_of_le (by simp; omega), List.append_nil]
  | succ n ih =>
    intro i r h
    have hi : i < a.size := by omega
    have hl : i < a.data.toList.length := by simpa using hi
    rw [ByteArray.toList.loop, if_pos hi, ih (i + 1) _ (by omega), List.drop_eq_getElem_cons hl]
    have hg : a.get! i = a.data.toList[i] := by
      show a.data[i]! = _
      have hd : i < a.data.size := hi
      rw [getElem!_pos a.data i hd]; simp
    rw [hg]
    simp
theorem ba_list (a : ByteArray) : a.toList = a.data.toList := by
  show ByteArray.toList.loop a 0 [] = _
  rw [ba_loop a a.size 0 [] rfl]
  simp
theorem ba_none {s : ByteArray} (h : s.size ≠ 0) : (s.toList == []) = false := by
  rw [beq_eq_false_iff_ne, ba_list]
  intro e
  apply h
  have : s.data.toList.length = 0 := by rw [e]; rfl
  simpa using this

set_option maxRecDepth 100000 in
set_option maxHeartbeats 2000000 in
theorem rname_any (s : ByteArray) (w : World) : Calls Tryd.prog 72 #[.string s] w fun e w' => e = .returned (.bool (nameB s)) ∧ w' = w := by
  by_cases h0 : s.size = 0
  · obtain rfl := bytes_nil h0
    rw [show nameB ⟨#[]⟩ = false from rfl]
    go_enter Tryd.func72, Tryd.ntmps72
    go_wp2
    go_ret
    exact ⟨rfl, rfl⟩
  · have hn0 := ba_none h0
    by_cases h64 : 64 < s.size
    · rw [name_long h64]
      have hd : decide (64 < (s.size : Int)) = true := by rw [decide_eq_true_eq]; omega
      go_enter Tryd.func72, Tryd.ntmps72
      go_wp2
      go_ret
      exact ⟨rfl, rfl⟩
    · have hs : s.size ≤ 64 := by omega
      have hd : decide (64 < (s.size : Int)) = false := by rw [decide_eq_false_iff_not]; omega
      rw [name_all hs]
      go_enter Tryd.func72, Tryd.ntmps72
      go_wp2_with fail
      go_loopw [3, 4] (fun v3 v4 wr => ∃ (k : Nat) (f : Bool), v3 = .bool f ∧ v4 = .int .i64 (k : Int) ∧ k ≤ s.size ∧ Hid (nmGo (s.data.toList.drop k) f = nmGo (s.data.toList.drop 0) true) ∧ wr = w) (fun _ v4 _ => s.size - (intOf v4).toNat)
      case atStart => exact ⟨0, true, rfl, rfl, Nat.zero_le _, Lib.hid rfl, rfl⟩
      case round =>
        obtain ⟨k, f, rfl, rfl, hk, hx, rfl⟩ := hrel
        by_cases hlt : k < s.size
        · clear hn0
          cases f with
          | true =>
            cases hU : chU (s[k].toNat : Int) with
            | true =>
              have st := Lib.hid (nm_low hlt hU true)
              go_wp2_with fail
              refine (rletter_any _ _).mono ?_
              rintro e w' ⟨rfl, rfl⟩
              rw [hU]
              clear hU
              go_wp2
              go_roundw
              case rel => exact ⟨k + 1, false, rfl, by congr 1, by omega, Lib.hid ((st.out).symm.trans hx.out), trivial⟩
              case measure => simp [intOf]; omega
            | false =>
              have st := Lib.hid (nm_stop hlt hU)
              go_wp2_with fail
              refine (rletter_any _ _).mono ?_
              rintro e w' ⟨rfl, rfl⟩
              rw [hU]
              clear hU
              go_wp2
              go_ret
              exact ⟨ret_bool ((st.out).symm.trans hx.out), rfl⟩
          | false =>
            cases h46 : ((s[k].toNat : Int) == 46) with
            | true =>
              have st := Lib.hid (nm_dot hlt h46)
              go_wp2
              go_roundw
              case rel => exact ⟨k + 1, true, rfl, by congr 1, by omega, Lib.hid ((st.out).symm.trans hx.out), trivial⟩
              case measure => simp [intOf]; omega
            | false =>
              cases hU : chU (s[k].toNat : Int) with
              | true =>
                have st := Lib.hid (nm_low hlt hU false)
                go_wp2_with fail
                refine (rletter_any _ _).mono ?_
                rintro e w' ⟨rfl, rfl⟩
                rw [hU]
                clear hU
                go_wp2
                go_roundw
                case rel => exact ⟨k + 1, false, rfl, by congr 1, by omega, Lib.hid ((st.out).symm.trans hx.out), trivial⟩
                case measure => simp [intOf]; omega
              | false =>
                rcases chN_ways (s[k].toNat : Int) with ⟨g1, gn⟩ | ⟨g1, g2, gn⟩ | ⟨g1, g2, g3, gn⟩ | ⟨g1, g2, g3, gn⟩
                · have st := Lib.hid (nm_in hlt hU h46 gn)
                  have g0 : ((s[k].toNat : Int) != 39) = false := by unfold bne; rw [g1]; rfl
                  clear gn
                  go_wp2_with fail
                  refine (rletter_any _ _).mono ?_
                  rintro e w' ⟨rfl, rfl⟩
                  rw [hU]
                  clear hU
                  go_wp2
                  go_roundw
                  case rel => exact ⟨k + 1, false, rfl, by congr 1, by omega, Lib.hid ((st.out).symm.trans hx.out), trivial⟩
                  case measure => simp [intOf]; omega
                · have st := Lib.hid (nm_bad hlt hU h46 gn)
                  have g0 : ((s[k].toNat : Int) != 39) = true := by unfold bne; rw [g1]; rfl
                  clear gn
                  go_wp2_with fail
                  refine (rletter_any _ _).mono ?_
                  rintro e w' ⟨rfl, rfl⟩
                  rw [hU]
                  clear hU
                  go_wp2
                  go_ret
                  exact ⟨ret_bool ((st.out).symm.trans hx.out), rfl⟩
                · have st := Lib.hid (nm_bad hlt hU h46 gn)
                  have g0 : ((s[k].toNat : Int) != 39) = true := by unfold bne; rw [g1]; rfl
                  clear gn
                  go_wp2_with fail
                  refine (rletter_any _ _).mono ?_
                  rintro e w' ⟨rfl, rfl⟩
                  rw [hU]
                  clear hU
                  go_wp2
                  go_ret
                  exact ⟨ret_bool ((st.out).symm.trans hx.out), rfl⟩
                · have st := Lib.hid (nm_in hlt hU h46 gn)
                  have g0 : ((s[k].toNat : Int) != 39) = true := by unfold bne; rw [g1]; rfl
                  clear gn
                  go_wp2_with fail
                  refine (rletter_any _ _).mono ?_
                  rintro e w' ⟨rfl, rfl⟩
                  rw [hU]
                  clear hU
                  go_wp2
                  go_roundw
                  case rel => exact ⟨k + 1, false, rfl, by congr 1, by omega, Lib.hid ((st.out).symm.trans hx.out), trivial⟩
                  case measure => simp [intOf]; omega
        · have st := Lib.hid (nm_end (s := s) (k := k) (by omega) f)
          have hd2 : decide ((k : Int) < (s.size : Int)) = false := by rw [decide_eq_false_iff_not]; omega
          go_wp2
          go_ret
          exact ⟨ret_bool (st.out.symm.trans hx.out), rfl⟩
end Go.Proofs.YtobaeeobfcffoaaDoor
