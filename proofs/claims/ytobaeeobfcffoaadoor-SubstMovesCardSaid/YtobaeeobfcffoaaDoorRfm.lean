/- The reference: form. -/
import Derived.Test.YtobaeeobfcffoaaDoorHfm
import Derived.Deep.DeepCutAuto
import Derived.Deep.QuietTactic
import Derived.BigQuiet
namespace Go.Proofs.YtobaeeobfcffoaaDoor
open Go.RowKit

theorem form_val {k i : Int} {nm : ByteArray} {nl nk : Nat} (h1 : isKd k = true) (h2 : (nk : Int) = kidsN k) (h3 : i = 0 ∨ k = 0 ∨ k = 12) (h4 : nm.toList.isEmpty = true ∨ k = 3) : formB k i nm nl nk = if k = 2 then decide (nl = 1) else (decide (nl = 0) || decide (k = 3)) := by
  have e1 : (shI k || i == 0) = true := by
    rcases h3 with h | h | h
    · simp [h]
    · simp [shI, h]
    · simp [shI, h]
  have e2 : (shN k || nm.toList.isEmpty) = true := by
    rcases h4 with h | h
    · rw [h, Bool.or_true]
    · simp [shN, h]
  have e3 : (kidsN k == (nk : Int)) = true := by simp [h2]
  unfold formB
  rw [h1, e1, e2, e3, Bool.true_and, Bool.true_and, Bool.true_and, Bool.and_true]
  unfold shL
  by_cases hk2 : k = 2
  · subst hk2
    by_cases h : nl = 1
    · subst h; rfl
    · have : ((1 : Int) == (nl : Int)) = false := by rw [beq_eq_false_iff_ne]; omega
      rw [if_pos rfl, if_pos rfl, this, decide_eq_false h]
      rfl
  · rw [if_neg hk2, if_neg hk2]
    by_cases hk3 : k = 3
    · subst hk3
      rw [if_pos rfl]
      simp
    · rw [if_neg hk3, decide_eq_false hk3, Bool.or_false]
      by_cases h : nl = 0
      · subst h; rfl
      · have : ((0 : Int) == (nl : Int)) = false := by rw [beq_eq_false_iff_ne]; omega
        rw [this, decide_eq_false h]
        rfl
theorem form_no1 {k i : Int} {nm : ByteArray} {nl nk : Nat} (h : isKd k = false) : formB k i nm nl nk = false := by simp [formB, h]
theorem form_no2 {k i : Int} {nm : ByteArray} {nl nk : Nat} (h : (nk : Int) ≠ kidsN k) : formB k i nm nl nk = false := by
  have : (kidsN k == (nk : Int)) = false := by rw [beq_eq_false_iff_ne]; exact fun e => h e.symm
  simp [formB, this]
theorem form_no3 {k i : Int} {nm : ByteArray} {nl nk : Nat} (h : i ≠ 0) (h2 : k ≠ 0) (h3 : k ≠ 12) : formB k i nm nl nk = false := by
  have : (shI k || i == 0) = false := by simp [shI, h, h2, h3]
  unfold formB
  rw [this]
  simp
theorem form_no4 {k i : Int} {nm : ByteArray} {nl nk : Nat} (h : nm.toList.isEmpty = false) (h2 : k ≠ 3) : formB k i nm nl nk = false := by
  have : (shN k || nm.toList.isEmpty) = false := by rw [h, Bool.or_false]; simp [shN, h2]
  unfold formB
  rw [this]
  simp

set_option maxRecDepth 100000 in
set_option maxHeartbeats 8000000 in
theorem rform_any (k i : Int) (nm : ByteArray) (AL : Option Addr) (nl cl : Nat) (AK : Option Addr) (nk ck : Nat) (w : World) :
    Calls Tryd.prog 71 #[.agg #[.int .i64 k, .int .i64 i, .string nm, .slice AL nl cl, .slice AK nk ck]] w fun e w' => e = .returned (.bool (formB k i nm nl nk)) ∧ Below w.heap.size w w' := by
  have hbe : ∀ o, Below w.heap.size w (w.alloc o) := fun o => (Below.refl _ _).alloc (Nat.le_refl _) _
  have hkd := Lib.hid (fun W => rkids_any k W)
  cases d1 : decide (k < 0) with
  | true =>
    have HF := Lib.hid (form_no1 (k := k) (i := i) (nm := nm) (nl := nl) (nk := nk) (by unfold isKd; have := of_decide_eq_true d1; simp; omega))
    go_enter Tryd.func71, Tryd.ntmps71
    go_wp2_with fail
    go_quiet (fail)
    go_wp2_with fail
    go_ret
    exact ⟨ret_b HF.out.symm, Below.drewN' (hbe _) _⟩
  | false =>
  cases d2 : decide (13 ≤ k) with
  | true =>
    have HF := Lib.hid (form_no1 (k := k) (i := i) (nm := nm) (nl := nl) (nk := nk) (by unfold isKd; have := of_decide_eq_true d2; simp; omega))
    go_enter Tryd.func71, Tryd.ntmps71
    go_wp2_with fail
    go_quiet (fail)
    go_wp2_with fail
    go_ret
    exact ⟨ret_b HF.out.symm, Below.drewN' (hbe _) _⟩
  | false =>
  have HK1 : Hid (isKd k = true) := Lib.hid (by unfold isKd; have := of_decide_eq_false d1; have := of_decide_eq_false d2; simp; omega)
  cases d3 : ((nk : Int) != kidsN k) with
  | true =>
    have HF := Lib.hid (form_no2 (k := k) (i := i) (nm := nm) (nl := nl) (nk := nk) (by simpa using d3))
    go_enter Tryd.func71, Tryd.ntmps71
    go_wp2_with fail
    go_quiet ((go_at_call 81; exact Calls.quiet_of_same (hkd.out _)))
    go_wp2_with fail
    go_ret
    exact ⟨ret_b HF.out.symm, Below.drewN' (hbe _) _⟩
  | false =>
  have HK2 : Hid ((nk : Int) = kidsN k) := Lib.hid (by simpa using d3)
  go_enter Tryd.func71, Tryd.ntmps71
  go_wp2_with fail
  go_quiet ((go_at_call 81; exact Calls.quiet_of_same (hkd.out _)))
  clear d1 d2 d3 hkd
  obtain ⟨W1, hW1⟩ : ∃ W1, W1 = (w.alloc (.cells #[.int .i64 k, .int .i64 i, .string nm, .slice AL nl cl, .slice AK nk ck] 25)).drewN nq := ⟨_, rfl⟩
  have hb1 : Below w.heap.size w W1 := by rw [hW1]; exact Below.drewN' (hbe _) _
  have x0 : W1.cell? ⟨w.heap.size, 0, none⟩ = some (.int .i64 k) := by rw [hW1]; go_simp
  have x1 : W1.cell? ⟨w.heap.size, 1, none⟩ = some (.int .i64 i) := by rw [hW1]; go_simp
  have x2 : W1.cell? ⟨w.heap.size, 2, none⟩ = some (.string nm) := by rw [hW1]; go_simp
  have x3 : W1.cell? ⟨w.heap.size, 3, none⟩ = some (.slice AL nl cl) := by rw [hW1]; go_simp
  rw [← hW1]
  clear hW1
  go_upto_region 3 with fail
  go_cut [32] from 20 to 32 (fun s32 wx => s32 = .bool (i != 0 && (k != 0 && k != 12)) ∧ wx = W1)
  case first =>
    cases e1 : (i != 0) <;> cases e2 : (k != 0) <;> cases e3 : (k != 12)
    all_goals
      go_wp2_with fail
      go_meet
      case rel => exact ⟨by rw [e1, e2, e3]; rfl, rfl⟩
  case rest =>
  obtain ⟨rfl, rfl⟩ := hcut
  cases e3 : (i != 0 && (k != 0 && k != 12)) with
  | true =>
    have HF : Hid (formB k i nm nl nk = false) := Lib.hid (by
      simp only [Bool.and_eq_true, bne_iff_ne] at e3
      exact form_no3 e3.1 e3.2.1 e3.2.2)
    clear e3
    go_wp2_with fail
    go_ret
    exact ⟨ret_b HF.out.symm, hb1⟩
  | false =>
  have HK3 : Hid (i = 0 ∨ k = 0 ∨ k = 12) := Lib.hid (by
    rcases Int.decEq i 0 with h | h
    · rcases Int.decEq k 0 with h2 | h2
      · rcases Int.decEq k 12 with h3 | h3
        · simp [h, h2, h3] at e3
        · exact .inr (.inr h3)
      · exact .inr (.inl h2)
    · exact .inl h)
  clear e3
  go_upto_region 5 with fail
  go_cut [40] from 33 to 40 (fun s40 wx => s40 = .bool (!nm.toList.isEmpty && k != 3) ∧ wx = wc)
  case first =>
    cases e1 : nm.toList.isEmpty <;> cases e2 : (k != 3)
    all_goals
      go_wp2_with fail
      go_meet
      case rel => exact ⟨by rw [e1, e2]; rfl, rfl⟩
  case rest =>
  obtain ⟨rfl, rfl⟩ := hcut
  cases e4 : (!nm.toList.isEmpty && k != 3) with
  | true =>
    have HF : Hid (formB k i nm nl nk = false) := Lib.hid (by
      simp only [Bool.and_eq_true, bne_iff_ne, Bool.not_eq_true'] at e4
      exact form_no4 e4.1 e4.2)
    clear e4
    go_wp2_with fail
    go_ret
    exact ⟨ret_b HF.out.symm, hb1⟩
  | false =>
  have HV : Hid (formB k i nm nl nk = if k = 2 then decide (nl = 1) else (decide (nl = 0) || decide (k = 3))) := Lib.hid (form_val HK1.out HK2.out HK3.out (by
    cases he : nm.toList.isEmpty with
    | true => exact .inl rfl
    | false =>
      rw [he] at e4
      refine .inr ?_
      simpa using e4))
  clear e4
  by_cases hk2 : k = 2
  · have HK := Lib.hid hk2
    have d0 : (k == 2) = true := by simpa using hk2
    clear hk2
    by_cases hn : nl = 1
    · have d1 : ((nl : Int) == 1) = true := by simp [hn]
      have HN := Lib.hid hn
      clear hn
      go_wp2_with fail
      go_ret
      exact ⟨ret_b (by rw [HV.out, if_pos HK.out, decide_eq_true HN.out]), hb1⟩
    · have d1 : ((nl : Int) == 1) = false := by rw [beq_eq_false_iff_ne]; omega
      have HN := Lib.hid hn
      clear hn
      go_wp2_with fail
      go_ret
      exact ⟨ret_b (by rw [HV.out, if_pos HK.out, decide_eq_false HN.out]), hb1⟩
  · have HK := Lib.hid hk2
    have d0 : (k == 2) = false := by rw [beq_eq_false_iff_ne]; exact hk2
    clear hk2
    by_cases hn : nl = 0
    · have d1 : ((nl : Int) == 0) = true := by simp [hn]
      have HN := Lib.hid hn
      clear hn
      go_wp2_with fail
      go_ret
      exact ⟨ret_b (by rw [HV.out, if_neg HK.out, decide_eq_true HN.out]; rfl), hb1⟩
    · have d1 : ((nl : Int) == 0) = false := by rw [beq_eq_false_iff_ne]; omega
      have HN := Lib.hid hn
      clear hn
      by_cases hk3 : k = 3
      · have d3 : (k == 3) = true := by simpa using hk3
        have HK4 := Lib.hid hk3
        clear hk3
        go_wp2_with fail
        go_ret
        exact ⟨ret_b (by rw [HV.out, if_neg HK.out, decide_eq_false HN.out, decide_eq_true HK4.out]; rfl), hb1⟩
      · have d3 : (k == 3) = false := by rw [beq_eq_false_iff_ne]; exact hk3
        have HK4 := Lib.hid hk3
        clear hk3
        go_wp2_with fail
        go_ret
        exact ⟨ret_b (by rw [HV.out, if_neg HK.out, decide_eq_false HN.out, decide_eq_false HK4.out]; rfl), hb1⟩
end Go.Proofs.YtobaeeobfcffoaaDoor
