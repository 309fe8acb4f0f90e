/- The reader's number. -/
import Derived.Test.YtipnabbdhmapkaaGreatDoorRd
namespace Go.Proofs.YtipnabbdhmapkaaGreatDoor
open Go.RowKit

def isDig (c : UInt8) : Bool := decide (48 ≤ (c.toNat : Int)) && decide ((c.toNat : Int) ≤ 57)
/-- The digits that stand from k on. -/
def digs (s : ByteArray) (k : Nat) : List UInt8 := (s.data.toList.drop k).takeWhile isDig
def digEnd (s : ByteArray) (k : Nat) : Nat := k + (digs s k).length
theorem digEnd_step {s : ByteArray} {k : Nat} (hk : k < s.size) (h : isDig s[k] = true) : digEnd s k = digEnd s (k + 1) := by
  have hl : k < s.data.toList.length := by simpa using hk
  unfold digEnd digs
  rw [List.drop_eq_getElem_cons hl, List.takeWhile_cons]
  have h' : isDig s.data[k] = true := h
  have : isDig s.data.toList[k] = true := by simpa using h'
  rw [this]
  simp only [if_true, List.length_cons]
  omega
theorem digEnd_stop {s : ByteArray} {k : Nat} (hk : k < s.size) (h : isDig s[k] = false) : digEnd s k = k := by
  have hl : k < s.data.toList.length := by simpa using hk
  unfold digEnd digs
  rw [List.drop_eq_getElem_cons hl, List.takeWhile_cons]
  have h' : isDig s.data[k] = false := h
  have : isDig s.data.toList[k] = false := by simpa using h'
  rw [this]
  simp
theorem digEnd_end {s : ByteArray} {k : Nat} (hk : s.size ≤ k) : digEnd s k = k := by
  have hl : s.data.toList.length ≤ k := by simpa using hk
  unfold digEnd digs
  rw [List.drop_eq_nil_of_le hl]
  simp
theorem digEnd_le {s : ByteArray} {k : Nat} (hk : k ≤ s.size) : digEnd s k ≤ s.size := by
  unfold digEnd digs
  have h1 : ((s.data.toList.drop k).takeWhile isDig).length ≤ (s.data.toList.drop k).length := (List.takeWhile_sublist _).length_le
  have h2 : (s.data.toList.drop k).length = s.size - k := by simp
  omega
theorem digs_extract {s : ByteArray} {k : Nat} : (s.extract k (digEnd s k)).data.toList = digs s k := by
  have h1 : (s.extract k (digEnd s k)).data.toList = List.take (digEnd s k - k) (List.drop k s.data.toList) := by simp
  rw [h1]
  have h2 : digEnd s k - k = (digs s k).length := by unfold digEnd; omega
  rw [h2]
  exact (List.prefix_iff_eq_take.1 (List.takeWhile_prefix isDig)).symm

/-- A number as the document has it: one to six digits, no superfluous zero. -/
def numB (d : List UInt8) : Bool := !d.isEmpty && (decide (d.length ≤ 6) && !(decide (1 < d.length) && d.head? == some 48))
def numV (d : List UInt8) : Int := if numB d = true then (Lib.atoi d).getD 0 else 0

theorem digs_all {s : ByteArray} {k : Nat} : ∀ c ∈ digs s k, isDig c = true := by
  unfold digs
  intro c hc
  exact (List.all_eq_true.1 (List.all_takeWhile (p := isDig))) c hc
theorem decFrom_digs : ∀ (l : List UInt8) (acc : Nat), (∀ c ∈ l, isDig c = true) → ∃ m, Lib.decFrom acc l = some m := by
  intro l
  induction l with
  | nil => intro acc _; exact ⟨acc, rfl⟩
  | cons c r ih =>
    intro acc h
    have hc := h c (by simp)
    simp only [isDig, Bool.and_eq_true, decide_eq_true_eq] at hc
    have hv : Lib.digitVal c = some (c.toNat - 48) := by unfold Lib.digitVal; rw [if_pos (by omega)]
    obtain ⟨m, hm⟩ := ih (acc * 10 + (c.toNat - 48)) (fun x hx => h x (by simp [hx]))
    exact ⟨m, by simp only [Lib.decFrom, hv]; exact hm⟩
theorem atoi_digs (l : List UInt8) (hne : l ≠ []) (h : ∀ c ∈ l, isDig c = true) : ∃ m : Nat, Lib.atoi l = some (m : Int) := by
  cases l with
  | nil => exact absurd rfl hne
  | cons c r =>
    obtain ⟨m, hm⟩ := decFrom_digs (c :: r) 0 h
    have hc := h c (by simp)
    simp only [isDig, Bool.and_eq_true, decide_eq_true_eq] at hc
    have e45 : (c == 45) = false := by
      rw [beq_eq_false_iff_ne]; intro e; subst e; revert hc; decide
    have e43 : (c == 43) = false := by
      rw [beq_eq_false_iff_ne]; intro e; subst e; revert hc; decide
    refine ⟨m, ?_⟩
    simp [Lib.atoi, e45, e43, Lib.decNat, hm]

theorem num_cases (D : ByteArray) (d : List UInt8) (hD : D.data.toList = d) (h : ∀ c ∈ d, isDig c = true) :
    (((D.size : Int) == 0) = true ∧ numB d = false) ∨
    (((D.size : Int) == 0) = false ∧ decide (6 < (D.size : Int)) = true ∧ numB d = false) ∨
    (∃ h0 : 0 < D.size, ((D.size : Int) == 0) = false ∧ decide (6 < (D.size : Int)) = false ∧ decide (1 < (D.size : Int)) = true ∧ ((D[0].toNat : Int) == 48) = true ∧ numB d = false) ∨
    (∃ h0 : 0 < D.size, ((D.size : Int) == 0) = false ∧ decide (6 < (D.size : Int)) = false ∧ decide (1 < (D.size : Int)) = true ∧ ((D[0].toNat : Int) == 48) = false ∧ numB d = true) ∨
    (((D.size : Int) == 0) = false ∧ decide (6 < (D.size : Int)) = false ∧ decide (1 < (D.size : Int)) = false ∧ numB d = true) := by
  have hsz : D.size = d.length := by rw [← hD]; simp
  by_cases h0 : D.size = 0
  · left
    have : d = [] := List.length_eq_zero_iff.1 (by omega)
    subst this
    exact ⟨by rw [beq_iff_eq, h0]; rfl, rfl⟩
  · right
    have e0 : ((D.size : Int) == 0) = false := by rw [beq_eq_false_iff_ne]; intro e; exact h0 (Int.ofNat_eq_zero.1 e)
    have hemp : d.isEmpty = false := by cases d with | nil => exact absurd hsz h0 | cons _ _ => rfl
    by_cases h6 : 6 < D.size
    · left
      refine ⟨e0, by rw [decide_eq_true_eq]; omega, ?_⟩
      have : decide (d.length ≤ 6) = false := by rw [decide_eq_false_iff_not]; omega
      simp [numB, hemp, this]
    · right
      have e6 : decide (6 < (D.size : Int)) = false := by rw [decide_eq_false_iff_not]; omega
      have d6 : decide (d.length ≤ 6) = true := by rw [decide_eq_true_eq]; omega
      by_cases h1 : 1 < D.size
      · have e1 : decide (1 < (D.size : Int)) = true := by rw [decide_eq_true_eq]; omega
        have d1 : decide (1 < d.length) = true := by rw [decide_eq_true_eq]; omega
        have h00 : 0 < D.size := by omega
        have hhd : d.head? = some D[0] := by
          subst hD
          have : D.data.toList[0]? = some D[0] := by
            rw [List.getElem?_eq_getElem (by simp; omega)]
            simp
            rfl
          rw [← List.head?_eq_getElem?] at this
          exact this
        by_cases h48 : D[0] = 48
        · left
          refine ⟨h00, e0, e6, e1, by rw [h48]; rfl, ?_⟩
          have : (d.head? == some 48) = true := by rw [hhd, h48]; rfl
          simp only [numB, hemp, d6, d1, this]
          rfl
        · right; left
          refine ⟨h00, e0, e6, e1, by rw [beq_eq_false_iff_ne]; intro e; apply h48; apply UInt8.toNat_inj.1; simp; omega, ?_⟩
          have : (d.head? == some 48) = false := by
            rw [hhd, beq_eq_false_iff_ne]; intro e; exact h48 (Option.some.inj e)
          simp only [numB, hemp, d6, d1, this]
          rfl
      · right; right
        have e1 : decide (1 < (D.size : Int)) = false := by rw [decide_eq_false_iff_not]; omega
        have d1 : decide (1 < d.length) = false := by rw [decide_eq_false_iff_not]; omega
        refine ⟨e0, e6, e1, ?_⟩
        simp only [numB, hemp, d6, d1]
        rfl
theorem numV_some {d : List UInt8} (h : numB d = true) (ha : ∀ c ∈ d, isDig c = true) : Lib.atoi d = some (numV d) := by
  have hne : d ≠ [] := by intro e; subst e; exact absurd h (by decide)
  obtain ⟨m, hm⟩ := atoi_digs d hne ha
  rw [hm, numV, if_pos h, hm]; rfl
theorem numB_len {d : List UInt8} (h : numB d = true) : d.length ≤ 6 := by
  unfold numB at h
  simp only [Bool.and_eq_true, decide_eq_true_eq] at h
  exact h.2.1

theorem grown_bytes {a w : World} {row : Option Nat} (h : a.grownBy w row) (e : TypeId) (t : ByteArray) : a.grownBy (Lib.bytesWorld w e t) row :=
  ⟨h.os, h.tape, h.output, by rw [Lib.bytesWorld_size]; have := h.size; omega, fun i hi hne => (Lib.bytesWorld_at_old w e t i (Nat.lt_of_lt_of_le hi h.size)).trans (h.block i hi hne)⟩


set_option maxRecDepth 100000 in
set_option maxHeartbeats 2000000 in
theorem number_rd (b : Nat) (s : ByteArray) (k0 : Nat) (w : World) (hr : Rd w b s k0) (hk0 : k0 ≤ s.size) (hs : s.size ≤ 65536) :
    Calls Tryz.prog 108 #[.pointer (some ⟨b, 0, none⟩)] w fun e w' => e = .returned (.tuple #[.int .i64 (numV (digs s k0)), .bool (numB (digs s k0))]) ∧ Rd w' b s (digEnd s k0) ∧ w.grownBy w' (some b) := by
  have hat := hr.at_
  go_enter Tryz.func108, Tryz.ntmps108
  go_wp2
  go_loopw [] (fun wr => ∃ k : Nat, k0 ≤ k ∧ k ≤ s.size ∧ Hid (digEnd s k = digEnd s k0) ∧ Rd wr b s k ∧ w.grownBy wr (some b)) (fun wr => s.size - atOf wr b)
  case atStart => exact ⟨k0, Nat.le_refl _, hk0, Lib.hid rfl, hr, grown_refl _ _⟩
  case round =>
    obtain ⟨k, hk0', hk, hx, hrd, hg⟩ := hrel
    have h0 := hrd.text
    have h1 := hrd.at_
    have hf := hrd.frozen
    have HR := Lib.hid hrd
    clear hrd hat
    by_cases hdig : ∃ h : k < s.size, isDig s[k] = true
    · obtain ⟨hlt, hd⟩ := hdig
      have hx' := Lib.hid ((digEnd_step hlt hd).symm.trans hx.out)
      simp only [isDig, Bool.and_eq_true] at hd
      obtain ⟨hd1, hd2⟩ := hd
      go_wp2_with fail
      go_quiet (fail)
      go_wp2
      go_roundw
      case rel => exact ⟨k + 1, by omega, by omega, hx', by simpa using (HR.out.drewN _).set_ (k + 1), grown_set (grown_drewN hg _) _ _⟩
      case measure => rw [atOf_rd (by simpa using (HR.out.drewN _).set_ (k + 1)), atOf_rd HR.out]; omega
    · have hend : Hid (digEnd s k0 = k) := Lib.hid (by
        rw [← hx.out]
        by_cases hlt : k < s.size
        · exact digEnd_stop hlt (by cases h : isDig s[k] with | false => rfl | true => exact absurd ⟨hlt, h⟩ hdig)
        · exact digEnd_end (by omega))
      have hguard : (¬ k < s.size) ∨ (∃ hlt : k < s.size, decide ((48 : Int) ≤ (s[k].toNat : Int)) = false) ∨ (∃ hlt : k < s.size, decide ((48 : Int) ≤ (s[k].toNat : Int)) = true ∧ decide ((s[k].toNat : Int) ≤ 57) = false) := by
        by_cases hlt : k < s.size
        · have : isDig s[k] = false := by cases h : isDig s[k] with | false => rfl | true => exact absurd ⟨hlt, h⟩ hdig
          simp only [isDig, Bool.and_eq_false_iff] at this
          rcases this with h | h
          · exact Or.inr (Or.inl ⟨hlt, h⟩)
          · cases h2 : decide ((48 : Int) ≤ (s[k].toNat : Int)) with
            | false => exact Or.inr (Or.inl ⟨hlt, h2⟩)
            | true => exact Or.inr (Or.inr ⟨hlt, h2, h⟩)
        · exact Or.inl hlt
      have hx2 := Lib.hid hx
      clear hx hdig
      rcases hguard with hga | ⟨hlt, hgb⟩ | ⟨hlt, hgb, hgc⟩
      · have hd : decide ((k : Int) < (s.size : Int)) = false := by simp; omega
        go_wp2_with fail
        go_quiet (fail)
        go_wp2_with fail
        go_quiet (fail)
        have HDS := Lib.hid (show (s.extract k0 k).data.toList = digs s k0 by rw [← hend.out]; exact digs_extract)
        generalize s.extract k0 k = D at *
        rcases num_cases D (digs s k0) HDS.out digs_all with ⟨g0, gn⟩ | ⟨g0, g6, gn⟩ | ⟨h00, g0, g6, g1, g48, gn⟩ | ⟨h00, g0, g6, g1, g48, gn⟩ | ⟨g0, g6, g1, gn⟩
        · go_wp2_with fail
          exact bodyPost_ret (v := .tuple #[.int .i64 (0), .bool false]) (by simp [results, Tryz.results108, go_sem]) rfl ⟨by rw [show numV (digs s k0) = 0 by simp [numV, gn], gn], by rw [hend.out]; exact HR.out.drewN _, grown_drewN hg _⟩
        · go_wp2_with fail
          exact bodyPost_ret (v := .tuple #[.int .i64 (0), .bool false]) (by simp [results, Tryz.results108, go_sem]) rfl ⟨by rw [show numV (digs s k0) = 0 by simp [numV, gn], gn], by rw [hend.out]; exact HR.out.drewN _, grown_drewN hg _⟩
        · go_wp2_with fail
          exact bodyPost_ret (v := .tuple #[.int .i64 (0), .bool false]) (by simp [results, Tryz.results108, go_sem]) rfl ⟨by rw [show numV (digs s k0) = 0 by simp [numV, gn], gn], by rw [hend.out]; exact HR.out.drewN _, grown_drewN hg _⟩
        · have hat2 := Lib.hid (numV_some gn digs_all)
          have hl2 : Hid (D.size ≤ 18) := Lib.hid (by have := numB_len gn; rw [← HDS.out] at this; simp at this; omega)
          go_wp2_with fail
          refine (Tryz.strconv_Atoi D (numV (digs s k0)) hl2.out (by rw [HDS.out]; exact hat2.out) _).mono ?_
          rintro e w2 ⟨rfl, t, rfl⟩
          go_wp2_with fail
          go_quiet (fail)
          go_wp2_with fail
          exact bodyPost_ret (v := .tuple #[.int .i64 (numV (digs s k0)), .bool true]) (by simp [results, Tryz.results108, go_sem]) rfl ⟨by rw [gn], by rw [hend.out]; exact Rd.drewN ((HR.out.drewN _).kept (row := none) (grown_bytes (grown_refl _ none) 5 t) (by simp)) _, grown_drewN (grown_bytes (grown_drewN hg _) 5 t) _⟩
        · have hat2 := Lib.hid (numV_some gn digs_all)
          have hl2 : Hid (D.size ≤ 18) := Lib.hid (by have := numB_len gn; rw [← HDS.out] at this; simp at this; omega)
          go_wp2_with fail
          refine (Tryz.strconv_Atoi D (numV (digs s k0)) hl2.out (by rw [HDS.out]; exact hat2.out) _).mono ?_
          rintro e w2 ⟨rfl, t, rfl⟩
          go_wp2_with fail
          go_quiet (fail)
          go_wp2_with fail
          exact bodyPost_ret (v := .tuple #[.int .i64 (numV (digs s k0)), .bool true]) (by simp [results, Tryz.results108, go_sem]) rfl ⟨by rw [gn], by rw [hend.out]; exact Rd.drewN ((HR.out.drewN _).kept (row := none) (grown_bytes (grown_refl _ none) 5 t) (by simp)) _, grown_drewN (grown_bytes (grown_drewN hg _) 5 t) _⟩
  
      · go_wp2_with fail
        go_quiet (fail)
        go_wp2_with fail
        go_quiet (fail)
        have HDS := Lib.hid (show (s.extract k0 k).data.toList = digs s k0 by rw [← hend.out]; exact digs_extract)
        generalize s.extract k0 k = D at *
        rcases num_cases D (digs s k0) HDS.out digs_all with ⟨g0, gn⟩ | ⟨g0, g6, gn⟩ | ⟨h00, g0, g6, g1, g48, gn⟩ | ⟨h00, g0, g6, g1, g48, gn⟩ | ⟨g0, g6, g1, gn⟩
        · go_wp2_with fail
          exact bodyPost_ret (v := .tuple #[.int .i64 (0), .bool false]) (by simp [results, Tryz.results108, go_sem]) rfl ⟨by rw [show numV (digs s k0) = 0 by simp [numV, gn], gn], by rw [hend.out]; exact HR.out.drewN _, grown_drewN hg _⟩
        · go_wp2_with fail
          exact bodyPost_ret (v := .tuple #[.int .i64 (0), .bool false]) (by simp [results, Tryz.results108, go_sem]) rfl ⟨by rw [show numV (digs s k0) = 0 by simp [numV, gn], gn], by rw [hend.out]; exact HR.out.drewN _, grown_drewN hg _⟩
        · go_wp2_with fail
          exact bodyPost_ret (v := .tuple #[.int .i64 (0), .bool false]) (by simp [results, Tryz.results108, go_sem]) rfl ⟨by rw [show numV (digs s k0) = 0 by simp [numV, gn], gn], by rw [hend.out]; exact HR.out.drewN _, grown_drewN hg _⟩
        · have hat2 := Lib.hid (numV_some gn digs_all)
          have hl2 : Hid (D.size ≤ 18) := Lib.hid (by have := numB_len gn; rw [← HDS.out] at this; simp at this; omega)
          go_wp2_with fail
          refine (Tryz.strconv_Atoi D (numV (digs s k0)) hl2.out (by rw [HDS.out]; exact hat2.out) _).mono ?_
          rintro e w2 ⟨rfl, t, rfl⟩
          go_wp2_with fail
          go_quiet (fail)
          go_wp2_with fail
          exact bodyPost_ret (v := .tuple #[.int .i64 (numV (digs s k0)), .bool true]) (by simp [results, Tryz.results108, go_sem]) rfl ⟨by rw [gn], by rw [hend.out]; exact Rd.drewN ((HR.out.drewN _).kept (row := none) (grown_bytes (grown_refl _ none) 5 t) (by simp)) _, grown_drewN (grown_bytes (grown_drewN hg _) 5 t) _⟩
        · have hat2 := Lib.hid (numV_some gn digs_all)
          have hl2 : Hid (D.size ≤ 18) := Lib.hid (by have := numB_len gn; rw [← HDS.out] at this; simp at this; omega)
          go_wp2_with fail
          refine (Tryz.strconv_Atoi D (numV (digs s k0)) hl2.out (by rw [HDS.out]; exact hat2.out) _).mono ?_
          rintro e w2 ⟨rfl, t, rfl⟩
          go_wp2_with fail
          go_quiet (fail)
          go_wp2_with fail
          exact bodyPost_ret (v := .tuple #[.int .i64 (numV (digs s k0)), .bool true]) (by simp [results, Tryz.results108, go_sem]) rfl ⟨by rw [gn], by rw [hend.out]; exact Rd.drewN ((HR.out.drewN _).kept (row := none) (grown_bytes (grown_refl _ none) 5 t) (by simp)) _, grown_drewN (grown_bytes (grown_drewN hg _) 5 t) _⟩
  
      · go_wp2_with fail
        go_quiet (fail)
        go_wp2_with fail
        go_quiet (fail)
        have HDS := Lib.hid (show (s.extract k0 k).data.toList = digs s k0 by rw [← hend.out]; exact digs_extract)
        generalize s.extract k0 k = D at *
        rcases num_cases D (digs s k0) HDS.out digs_all with ⟨g0, gn⟩ | ⟨g0, g6, gn⟩ | ⟨h00, g0, g6, g1, g48, gn⟩ | ⟨h00, g0, g6, g1, g48, gn⟩ | ⟨g0, g6, g1, gn⟩
        · go_wp2_with fail
          exact bodyPost_ret (v := .tuple #[.int .i64 (0), .bool false]) (by simp [results, Tryz.results108, go_sem]) rfl ⟨by rw [show numV (digs s k0) = 0 by simp [numV, gn], gn], by rw [hend.out]; exact HR.out.drewN _, grown_drewN hg _⟩
        · go_wp2_with fail
          exact bodyPost_ret (v := .tuple #[.int .i64 (0), .bool false]) (by simp [results, Tryz.results108, go_sem]) rfl ⟨by rw [show numV (digs s k0) = 0 by simp [numV, gn], gn], by rw [hend.out]; exact HR.out.drewN _, grown_drewN hg _⟩
        · go_wp2_with fail
          exact bodyPost_ret (v := .tuple #[.int .i64 (0), .bool false]) (by simp [results, Tryz.results108, go_sem]) rfl ⟨by rw [show numV (digs s k0) = 0 by simp [numV, gn], gn], by rw [hend.out]; exact HR.out.drewN _, grown_drewN hg _⟩
        · have hat2 := Lib.hid (numV_some gn digs_all)
          have hl2 : Hid (D.size ≤ 18) := Lib.hid (by have := numB_len gn; rw [← HDS.out] at this; simp at this; omega)
          go_wp2_with fail
          refine (Tryz.strconv_Atoi D (numV (digs s k0)) hl2.out (by rw [HDS.out]; exact hat2.out) _).mono ?_
          rintro e w2 ⟨rfl, t, rfl⟩
          go_wp2_with fail
          go_quiet (fail)
          go_wp2_with fail
          exact bodyPost_ret (v := .tuple #[.int .i64 (numV (digs s k0)), .bool true]) (by simp [results, Tryz.results108, go_sem]) rfl ⟨by rw [gn], by rw [hend.out]; exact Rd.drewN ((HR.out.drewN _).kept (row := none) (grown_bytes (grown_refl _ none) 5 t) (by simp)) _, grown_drewN (grown_bytes (grown_drewN hg _) 5 t) _⟩
        · have hat2 := Lib.hid (numV_some gn digs_all)
          have hl2 : Hid (D.size ≤ 18) := Lib.hid (by have := numB_len gn; rw [← HDS.out] at this; simp at this; omega)
          go_wp2_with fail
          refine (Tryz.strconv_Atoi D (numV (digs s k0)) hl2.out (by rw [HDS.out]; exact hat2.out) _).mono ?_
          rintro e w2 ⟨rfl, t, rfl⟩
          go_wp2_with fail
          go_quiet (fail)
          go_wp2_with fail
          exact bodyPost_ret (v := .tuple #[.int .i64 (numV (digs s k0)), .bool true]) (by simp [results, Tryz.results108, go_sem]) rfl ⟨by rw [gn], by rw [hend.out]; exact Rd.drewN ((HR.out.drewN _).kept (row := none) (grown_bytes (grown_refl _ none) 5 t) (by simp)) _, grown_drewN (grown_bytes (grown_drewN hg _) 5 t) _⟩
  
end Go.Proofs.YtipnabbdhmapkaaGreatDoor
