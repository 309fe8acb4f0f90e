/- The reference's reader: spaces, take, keep. -/
import Derived.Test.YtipnabbdhmapkaaGreatDoorNum
namespace Go.Proofs.YtipnabbdhmapkaaGreatDoor
open Go.RowKit

/-! The reference's reader: spaces, take, keep. -/

/-- Block b is the reference's reader: the text s, the place k, whether the form is wrong, the first error. -/
def Rr (w : World) (b : Nat) (s : ByteArray) (k : Nat) (bad : Bool) (err : Int) : Prop := w.heap[b]? = some (.cells #[.string s, .int .i64 (k : Int), .bool bad, .int .i64 err] 111 (0, 0))
section
variable {w w' : World} {b k : Nat} {s : ByteArray} {bad : Bool} {err : Int}
theorem Rr.lt (h : Rr w b s k bad err) : b < w.heap.size := (Array.getElem?_eq_some_iff.1 h).1
theorem Rr.text (h : Rr w b s k bad err) : w.cell? ⟨b, 0, none⟩ = some (.string s) := by simp [World.cell?, show w.heap[b]? = _ from h]
theorem Rr.at_ (h : Rr w b s k bad err) : w.cell? ⟨b, 1, none⟩ = some (.int .i64 (k : Int)) := by simp [World.cell?, show w.heap[b]? = _ from h]
theorem Rr.bd (h : Rr w b s k bad err) : w.cell? ⟨b, 2, none⟩ = some (.bool bad) := by simp [World.cell?, show w.heap[b]? = _ from h]
theorem Rr.er (h : Rr w b s k bad err) : w.cell? ⟨b, 3, none⟩ = some (.int .i64 err) := by simp [World.cell?, show w.heap[b]? = _ from h]
theorem Rr.fr (h : Rr w b s k bad err) (o : Nat) : w.frozen? ⟨b, o, none⟩ = false := by simp [World.frozen?, show w.heap[b]? = _ from h]
theorem Rr.drewN (h : Rr w b s k bad err) (n : Nat) : Rr (w.drewN n) b s k bad err := h
theorem Rr.drew (h : Rr w b s k bad err) : Rr w.drew b s k bad err := h
theorem Rr.setK (h : Rr w b s k bad err) (n : Nat) : Rr (w.setCell ⟨b, 1, none⟩ (.int .i64 (n : Int))) b s n bad err := by
  have := heap_setCell_same w b 1 _ _ (.int .i64 (n : Int)) h
  unfold Rr
  rw [this]
  rfl
theorem Rr.setB (h : Rr w b s k bad err) (c : Bool) : Rr (w.setCell ⟨b, 2, none⟩ (.bool c)) b s k c err := by
  have := heap_setCell_same w b 2 _ _ (.bool c) h
  unfold Rr
  rw [this]
  rfl
theorem Rr.setE (h : Rr w b s k bad err) (c : Int) : Rr (w.setCell ⟨b, 3, none⟩ (.int .i64 c)) b s k bad c := by
  have := heap_setCell_same w b 3 _ _ (.int .i64 c) h
  unfold Rr
  rw [this]
  rfl
theorem Rr.kept (h : Rr w b s k bad err) {row : Option Nat} (hg : w.grownBy w' row) (hne : some b ≠ row) : Rr w' b s k bad err := (hg.block b h.lt hne).trans h
theorem Rr.alloc (h : Rr w b s k bad err) (o : Obj) : Rr (w.alloc o) b s k bad err := (Below.heap_alloc _ _ _ h.lt).trans h
theorem Rr.below (h : Rr w b s k bad err) (hb : Below w.heap.size w w') : Rr w' b s k bad err := (hb.block b h.lt).trans h
end
theorem atOf_rr {w : World} {b k : Nat} {s : ByteArray} {bad : Bool} {err : Int} (h : Rr w b s k bad err) : atOf w b = k := by unfold atOf; rw [h.at_]; simp [intOf]

set_option maxRecDepth 100000 in
set_option maxHeartbeats 2000000 in
theorem rspaces_any (b : Nat) (s : ByteArray) (k0 : Nat) (bad : Bool) (err : Int) (w : World) (hr : Rr w b s k0 bad err) (hk0 : k0 ≤ s.size) (hs : s.size ≤ 65536) :
    Calls Tryz.prog 75 #[.pointer (some ⟨b, 0, none⟩)] w fun e w' => e = .returned (.tuple #[]) ∧ Rr w' b s (spEnd s k0) bad err ∧ w.grownBy w' (some b) := by
  go_enter Tryz.func75, Tryz.ntmps75
  go_wp2
  go_loopw [] (fun wr => ∃ k : Nat, k ≤ s.size ∧ Hid (spEnd s k = spEnd s k0) ∧ Rr wr b s k bad err ∧ w.grownBy wr (some b)) (fun wr => s.size - atOf wr b)
  case atStart => exact ⟨k0, hk0, Lib.hid rfl, hr, grown_refl _ _⟩
  case round =>
    obtain ⟨k, hk, hx, hrd, hg⟩ := hrel
    have h0 := hrd.text
    have h1 := hrd.at_
    have hf := hrd.fr
    have HR := Lib.hid hrd
    clear hrd
    by_cases hlt : k < s.size
    · by_cases h32 : s[k] = 32
      · have hd : ((s[k].toNat : Int) == 32) = true := by rw [h32]; rfl
        have hx' := Lib.hid ((spEnd_step hlt h32).symm.trans hx.out)
        clear h32
        go_wp2_with fail
        go_quiet (fail)
        go_wp2
        go_roundw
        case rel => exact ⟨k + 1, by omega, hx', by simpa using (HR.out.drewN _).setK (k + 1), grown_set (grown_drewN hg _) _ _⟩
        case measure => rw [atOf_rr (by simpa using (HR.out.drewN _).setK (k + 1)), atOf_rr HR.out]; omega
      · have hd : ((s[k].toNat : Int) == 32) = false := by
          rw [beq_eq_false_iff_ne]; intro e; apply h32; apply UInt8.toNat_inj.1; simp; omega
        have hx' := Lib.hid ((spEnd_stop hlt h32).symm.trans hx.out)
        clear h32
        go_wp2_with fail
        go_quiet (fail)
        go_wp2
        go_end0
        exact ⟨rfl, by rw [← hx'.out]; exact HR.out.drewN _, grown_drewN hg _⟩
    · have hx' := Lib.hid ((spEnd_end (s := s) (k := k) (by omega)).symm.trans hx.out)
      have hd : decide ((k : Int) < (s.size : Int)) = false := by simp; omega
      go_wp2_with fail
      go_quiet (fail)
      go_wp2
      go_end0
      exact ⟨rfl, by rw [← hx'.out]; exact HR.out.drewN _, grown_drewN hg _⟩

/-- Whether the byte c stands at place k. -/
def tkB (s : ByteArray) (k : Nat) (c : UInt8) : Bool := (s.data.toList.drop k).head? == some c
def tkEnd (s : ByteArray) (k : Nat) (c : UInt8) : Nat := if tkB s k c = true then k + 1 else k
theorem tkB_yes {s : ByteArray} {k : Nat} {c : UInt8} (hk : k < s.size) (h : s[k] = c) : tkB s k c = true := by
  have hl : k < s.data.toList.length := by simpa using hk
  unfold tkB
  rw [List.drop_eq_getElem_cons hl]
  have h' : s.data.toList[k] = c := h
  simp [h']
theorem tkB_no {s : ByteArray} {k : Nat} {c : UInt8} (h : ∀ hk : k < s.size, s[k] ≠ c) : tkB s k c = false := by
  unfold tkB
  by_cases hk : k < s.size
  · have hl : k < s.data.toList.length := by simpa using hk
    rw [List.drop_eq_getElem_cons hl]
    have h' : s.data.toList[k] ≠ c := h hk
    rw [List.head?_cons, beq_eq_false_iff_ne]
    intro e
    exact h' (Option.some.inj e)
  · have hl : s.data.toList.length ≤ k := by simp; omega
    rw [List.drop_eq_nil_of_le hl]
    rfl
theorem tkB_lt {s : ByteArray} {k : Nat} {c : UInt8} (h : tkB s k c = true) : k < s.size := by
  rcases Nat.lt_or_ge k s.size with h1 | h1
  · exact h1
  · rw [tkB_no fun hk => by omega] at h
    cases h

set_option maxRecDepth 100000 in
set_option maxHeartbeats 2000000 in
theorem take_any (b : Nat) (s : ByteArray) (k : Nat) (bad : Bool) (err : Int) (c : UInt8) (ci : Int) (hci : ci = (c.toNat : Int)) (w : World) (hr : Rr w b s k bad err) (hk : k ≤ s.size) (hs : s.size ≤ 65536) :
    Calls Tryz.prog 76 #[.pointer (some ⟨b, 0, none⟩), .int .u8 ci] w fun e w' => e = .returned (.bool (tkB s k c)) ∧ Rr w' b s (tkEnd s k c) bad err ∧ w.grownBy w' (some b) := by
  have h0 := hr.text
  have h1 := hr.at_
  have hf := hr.fr
  have HR := Lib.hid hr
  clear hr
  by_cases hlt : k < s.size
  · by_cases hc : s[k] = c
    · have hd : ((s[k].toNat : Int) == ci) = true := by rw [hci, hc]; simp
      have HT := Lib.hid (tkB_yes hlt hc)
      clear hc hci
      go_enter Tryz.func76, Tryz.ntmps76
      go_wp2_with fail
      go_quiet (fail)
      go_wp2
      go_ret
      exact ⟨ret_bool HT.out.symm, by unfold tkEnd; rw [if_pos HT.out]; simpa using (HR.out.drewN _).setK (k + 1), grown_set (grown_drewN (grown_refl _ _) _) _ _⟩
    · have hd : ((s[k].toNat : Int) == ci) = false := by
        rw [beq_eq_false_iff_ne, hci]; intro e; apply hc; apply UInt8.toNat_inj.1; omega
      have HT := Lib.hid (show tkB s k c = false from tkB_no fun _ => hc)
      clear hc hci
      go_enter Tryz.func76, Tryz.ntmps76
      go_wp2_with fail
      go_quiet (fail)
      go_wp2
      go_ret
      exact ⟨ret_bool HT.out.symm, by unfold tkEnd; rw [HT.out]; exact HR.out.drewN _, grown_drewN (grown_refl _ _) _⟩
  · have HT := Lib.hid (show tkB s k c = false from tkB_no fun h => absurd h hlt)
    have hd : decide ((k : Int) < (s.size : Int)) = false := by simp; omega
    clear hci
    go_enter Tryz.func76, Tryz.ntmps76
    go_wp2_with fail
    go_quiet (fail)
    go_wp2
    go_ret
    exact ⟨ret_bool HT.out.symm, by unfold tkEnd; rw [HT.out]; exact HR.out.drewN _, grown_drewN (grown_refl _ _) _⟩

set_option maxRecDepth 100000 in
set_option maxHeartbeats 2000000 in
theorem keep_any (b : Nat) (s : ByteArray) (k : Nat) (bad : Bool) (err c e1 : Int) (A : Option Addr) (n cap : Nat) (w : World) (hr : Rr w b s k bad err) :
    Calls Tryz.prog 92 #[.pointer (some ⟨b, 0, none⟩), .agg #[.int .i64 c, .slice A n cap], .int .i64 e1] w fun e w' => e = .returned (.agg #[.int .i64 c, .slice A n cap]) ∧ Rr w' b s k bad (if err = 0 ∧ bad = false then e1 else err) ∧ w.grownBy w' (some b) := by
  have hlt := hr.lt
  have h2 := hr.bd
  have h3 := hr.er
  have hf := hr.fr
  have HR := Lib.hid hr
  clear hr
  by_cases he : err = 0
  · subst he
    cases bad with
    | false =>
      go_enter Tryz.func92, Tryz.ntmps92
      go_wp2_with fail
      exact bodyPost_ret (v := .agg #[.int .i64 c, .slice A n cap]) (by simp [results, Tryz.results92, go_sem]) rfl ⟨rfl, by simpa using ((HR.out.setE e1).alloc _).alloc _, grown_alloc (grown_alloc (grown_set (grown_refl _ _) _ _) _) _⟩
    | true =>
      go_enter Tryz.func92, Tryz.ntmps92
      go_wp2_with fail
      exact bodyPost_ret (v := .agg #[.int .i64 c, .slice A n cap]) (by simp [results, Tryz.results92, go_sem]) rfl ⟨rfl, by simpa using ((HR.out.alloc _).alloc _), grown_alloc (grown_alloc (grown_refl _ _) _) _⟩
  · have hd : (err == 0) = false := by rw [beq_eq_false_iff_ne]; exact he
    go_enter Tryz.func92, Tryz.ntmps92
    go_wp2_with fail
    exact bodyPost_ret (v := .agg #[.int .i64 c, .slice A n cap]) (by simp [results, Tryz.results92, go_sem]) rfl ⟨rfl, by first | exact ((HR.out.alloc _).alloc _) | (rw [if_neg (fun h => he h.1)]; exact ((HR.out.alloc _).alloc _)), grown_alloc (grown_alloc (grown_refl _ _) _) _⟩

/-! The reference's reader: a number. -/

theorem digs_cons {s : ByteArray} {k : Nat} (hk : k < s.size) (h : isDig s[k] = true) : digs s k = s[k] :: digs s (k + 1) := by
  have hl : k < s.data.toList.length := by simpa using hk
  unfold digs
  rw [List.drop_eq_getElem_cons hl, List.takeWhile_cons]
  have h' : isDig s.data[k] = true := h
  have : isDig s.data.toList[k] = true := by simpa using h'
  rw [this]
  rfl
theorem digs_nil {s : ByteArray} {k : Nat} (h : digEnd s k = k) : digs s k = [] := by
  unfold digEnd at h
  exact List.length_eq_zero_iff.1 (by omega)
theorem atoi_dec (l : List UInt8) (hne : l ≠ []) (h : ∀ c ∈ l, isDig c = true) {m : Nat} (hm : Lib.decFrom 0 l = some m) : Lib.atoi l = some (m : Int) := by
  cases l with
  | nil => exact absurd rfl hne
  | cons c r =>
    have hc := h c (by simp)
    simp only [isDig, Bool.and_eq_true, decide_eq_true_eq] at hc
    have e45 : (c == 45) = false := by
      rw [beq_eq_false_iff_ne]; intro e; subst e; revert hc; decide
    have e43 : (c == 43) = false := by
      rw [beq_eq_false_iff_ne]; intro e; subst e; revert hc; decide
    simp [Lib.atoi, e45, e43, Lib.decNat, hm]

/-- The number n stands for the digits from k0 to k. -/
structure RN (s : ByteArray) (k0 k n : Nat) : Prop where
  len : (digs s k0).length = (k - k0) + (digs s k).length
  val : Lib.decFrom n (digs s k) = Lib.decFrom 0 (digs s k0)
  lt : n < 10 ^ (k - k0)
  le : k - k0 ≤ 7
theorem RN.start (s : ByteArray) (k : Nat) : RN s k k 0 := ⟨by omega, rfl, by simp, by omega⟩
theorem RN.step {s : ByteArray} {k0 k n : Nat} (h : RN s k0 k n) (h0 : k0 ≤ k) (hk : k < s.size) (hd : isDig s[k] = true) (h6 : k - k0 ≤ 6) : RN s k0 (k + 1) (10 * n + (s[k].toNat - 48)) := by
  have hc := hd
  simp only [isDig, Bool.and_eq_true, decide_eq_true_eq] at hc
  have hcons := digs_cons hk hd
  have h1 := h.len
  have h2 := h.val
  have h3 := h.lt
  rw [hcons] at h1 h2
  have hv : Lib.digitVal s[k] = some (s[k].toNat - 48) := by unfold Lib.digitVal; rw [if_pos (by omega)]
  simp only [Lib.decFrom, hv] at h2
  refine ⟨?_, ?_, ?_, by omega⟩
  · simp only [List.length_cons] at h1; omega
  · rw [Nat.mul_comm 10 n]; exact h2
  · have : k + 1 - k0 = (k - k0) + 1 := by omega
    rw [this, Nat.pow_succ]
    omega
theorem RN.small {s : ByteArray} {k0 k n : Nat} (h : RN s k0 k n) : n ≤ 9999999 := by
  have h1 := h.lt
  have h2 : 10 ^ (k - k0) ≤ 10 ^ 7 := Nat.pow_le_pow_right (by omega) h.le
  omega
theorem RN.small6 {s : ByteArray} {k0 k n : Nat} (h : RN s k0 k n) (h6 : k - k0 ≤ 6) : n ≤ 999999 := by
  have h1 := h.lt
  have h2 : 10 ^ (k - k0) ≤ 10 ^ 6 := Nat.pow_le_pow_right (by omega) h6
  omega
theorem RN.out {s : ByteArray} {k0 k n : Nat} (h : RN s k0 k n) (h0 : k0 ≤ k) (hk : k ≤ s.size) (he : digs s k = [] ∨ (6 < k - k0 ∧ digs s k ≠ [])) :
    (((k : Int) == k0) = true ∧ numB (digs s k0) = false) ∨
    (((k : Int) == k0) = false ∧ decide (6 < (k : Int) - k0) = true ∧ numB (digs s k0) = false) ∨
    (∃ hh : k0 < s.size, ((k : Int) == k0) = false ∧ decide (6 < (k : Int) - k0) = false ∧ ((s[k0].toNat : Int) == 48) = true ∧ decide (1 < (k : Int) - k0) = true ∧ numB (digs s k0) = false) ∨
    (∃ hh : k0 < s.size, ((k : Int) == k0) = false ∧ decide (6 < (k : Int) - k0) = false ∧ ((s[k0].toNat : Int) == 48) = true ∧ decide (1 < (k : Int) - k0) = false ∧ numB (digs s k0) = true ∧ (n : Int) = numV (digs s k0) ∧ k = digEnd s k0) ∨
    (∃ hh : k0 < s.size, ((k : Int) == k0) = false ∧ decide (6 < (k : Int) - k0) = false ∧ ((s[k0].toNat : Int) == 48) = false ∧ numB (digs s k0) = true ∧ (n : Int) = numV (digs s k0) ∧ k = digEnd s k0) := by
  have h1 := h.len
  have h2 := h.val
  by_cases e0 : k = k0
  · left
    subst e0
    refine ⟨by simp, ?_⟩
    rcases he with he | ⟨he, _⟩
    · rw [he]; rfl
    · omega
  · right
    have d0 : ((k : Int) == k0) = false := by rw [beq_eq_false_iff_ne]; omega
    by_cases e6 : 6 < k - k0
    · left
      refine ⟨d0, by rw [decide_eq_true_eq]; omega, ?_⟩
      have : decide ((digs s k0).length ≤ 6) = false := by rw [decide_eq_false_iff_not]; omega
      simp [numB, this]
    · right
      have hnil : digs s k = [] := by
        rcases he with he | ⟨he, _⟩
        · exact he
        · omega
      rw [hnil] at h1 h2
      simp only [List.length_nil, Nat.add_zero, Lib.decFrom] at h1 h2
      have d6 : decide (6 < (k : Int) - k0) = false := by rw [decide_eq_false_iff_not]; omega
      have hh : k0 < s.size := by omega
      have hne : digs s k0 ≠ [] := by intro e; rw [e] at h1; simp at h1; omega
      have hhd : (digs s k0).head? = some s[k0] := by
        by_cases hd : isDig s[k0] = true
        · rw [digs_cons hh hd]; rfl
        · exact absurd (digs_nil (digEnd_stop hh (by simpa using hd))) hne
      have hemp : (digs s k0).isEmpty = false := by rw [List.isEmpty_eq_false_iff]; exact hne
      have l6 : decide ((digs s k0).length ≤ 6) = true := by rw [decide_eq_true_eq]; omega
      have hval : numB (digs s k0) = true → (n : Int) = numV (digs s k0) ∧ k = digEnd s k0 := by
        intro hB
        have ha := atoi_dec (digs s k0) hne digs_all h2.symm
        refine ⟨?_, by unfold digEnd; omega⟩
        rw [numV, if_pos hB, ha]; rfl
      by_cases e48 : s[k0] = 48
      · have d48 : ((s[k0].toNat : Int) == 48) = true := by rw [e48]; rfl
        have g48 : ((digs s k0).head? == some 48) = true := by rw [hhd, e48]; rfl
        by_cases e1 : 1 < k - k0
        · left
          refine ⟨hh, d0, d6, d48, by rw [decide_eq_true_eq]; omega, ?_⟩
          have : decide (1 < (digs s k0).length) = true := by rw [decide_eq_true_eq]; omega
          simp only [numB, hemp, l6, this, g48]; rfl
        · right; left
          have : decide (1 < (digs s k0).length) = false := by rw [decide_eq_false_iff_not]; omega
          have hB : numB (digs s k0) = true := by simp only [numB, hemp, l6, this]; rfl
          exact ⟨hh, d0, d6, d48, by rw [decide_eq_false_iff_not]; omega, hB, hval hB⟩
      · right; right
        have d48 : ((s[k0].toNat : Int) == 48) = false := by
          rw [beq_eq_false_iff_ne]; intro e; apply e48; apply UInt8.toNat_inj.1; simp; omega
        have g48 : ((digs s k0).head? == some 48) = false := by
          rw [hhd, beq_eq_false_iff_ne]; intro e; exact e48 (Option.some.inj e)
        have hB : numB (digs s k0) = true := by simp only [numB, hemp, l6, g48, Bool.and_false]; rfl
        exact ⟨hh, d0, d6, d48, hB, hval hB⟩

set_option maxRecDepth 100000 in
set_option maxHeartbeats 2000000 in
theorem rnumber_any (b : Nat) (s : ByteArray) (k0 : Nat) (bad : Bool) (err : Int) (w : World) (hr : Rr w b s k0 bad err) (hk0 : k0 ≤ s.size) (hs : s.size ≤ 65536) :
    Calls Tryz.prog 91 #[.pointer (some ⟨b, 0, none⟩)] w fun e w' => ∃ n k' : Nat, e = .returned (.int .i64 (n : Int)) ∧ Rr w' b s k' (bad || !numB (digs s k0)) err ∧ w.grownBy w' (some b) ∧ k0 ≤ k' ∧ k' ≤ s.size ∧ n ≤ 9999999 ∧ (numB (digs s k0) = true → (n : Int) = numV (digs s k0) ∧ k' = digEnd s k0) := by
  have hat := hr.at_
  go_enter Tryz.func91, Tryz.ntmps91
  go_wp2
  go_loopw [4] (fun v wr => ∃ k n : Nat, v = .int .i64 (n : Int) ∧ k0 ≤ k ∧ k ≤ s.size ∧ Hid (RN s k0 k n) ∧ Rr wr b s k bad err ∧ w.grownBy wr (some b)) (fun _ wr => s.size - atOf wr b)
  case atStart => exact ⟨k0, 0, rfl, Nat.le_refl _, hk0, Lib.hid (RN.start s k0), hr, grown_refl _ _⟩
  case round =>
    obtain ⟨k, n, rfl, hk0', hk, hx, hrd, hg⟩ := hrel
    have h0 := hrd.text
    have h1 := hrd.at_
    have h2 := hrd.bd
    have hf := hrd.fr
    have HR := Lib.hid hrd
    clear hrd hat
    by_cases hdig : ∃ h : k < s.size, isDig s[k] = true ∧ k - k0 ≤ 6
    · obtain ⟨hlt, hd, h6⟩ := hdig
      have hn := hx.out.small6 h6
      have hx' := Lib.hid (hx.out.step hk0' hlt hd h6)
      have hx2 := Lib.hid hx
      clear hx
      simp only [isDig, Bool.and_eq_true] at hd
      obtain ⟨hd1, hd2⟩ := hd
      have hq1 := of_decide_eq_true hd1
      have hq2 := of_decide_eq_true hd2
      have hd3 : decide ((k : Int) - k0 ≤ 6) = true := by rw [decide_eq_true_eq]; omega
      go_wp2_with fail
      go_quiet (fail)
      go_wp2_with fail
      go_quiet (fail)
      go_wp2
      go_roundw
      case rel => exact ⟨k + 1, 10 * n + (s[k].toNat - 48), by congr 1; omega, by omega, by omega, hx', by simpa using (HR.out.drewN _).setK (k + 1), grown_set (grown_drewN hg _) _ _⟩
      case measure => rw [atOf_rr (by simpa using (HR.out.drewN _).setK (k + 1)), atOf_rr HR.out]; omega
    · have hend : digs s k = [] ∨ (6 < k - k0 ∧ digs s k ≠ []) := by
        by_cases hlt : k < s.size
        · cases h : isDig s[k] with
          | false => exact .inl (digs_nil (digEnd_stop hlt h))
          | true =>
            refine .inr ⟨?_, by rw [digs_cons hlt h]; simp⟩
            rcases Nat.lt_or_ge 6 (k - k0) with h6 | h6
            · exact h6
            · exact absurd ⟨hlt, h, h6⟩ hdig
        · exact .inl (digs_nil (digEnd_end (by omega)))
      have hguard : (¬ k < s.size ∧ decide (k < s.size) = false) ∨ (∃ hlt : k < s.size, decide ((48 : Int) ≤ (s[k].toNat : Int)) = false) ∨ (∃ hlt : k < s.size, decide ((48 : Int) ≤ (s[k].toNat : Int)) = true ∧ decide ((s[k].toNat : Int) ≤ 57) = false) ∨ (∃ hlt : k < s.size, decide ((48 : Int) ≤ (s[k].toNat : Int)) = true ∧ decide ((s[k].toNat : Int) ≤ 57) = true ∧ decide ((k : Int) - k0 ≤ 6) = false) := by
        by_cases hlt : k < s.size
        · cases h : isDig s[k] with
          | false =>
            simp only [isDig, Bool.and_eq_false_iff] at h
            rcases h with h | h
            · exact .inr (.inl ⟨hlt, h⟩)
            · cases h2 : decide ((48 : Int) ≤ (s[k].toNat : Int)) with
              | false => exact .inr (.inl ⟨hlt, h2⟩)
              | true => exact .inr (.inr (.inl ⟨hlt, h2, h⟩))
          | true =>
            have h' := h
            simp only [isDig, Bool.and_eq_true] at h'
            refine .inr (.inr (.inr ⟨hlt, h'.1, h'.2, ?_⟩))
            rw [decide_eq_false_iff_not]
            intro h6
            exact hdig ⟨hlt, h, by omega⟩
        · exact .inl ⟨hlt, decide_eq_false hlt⟩
      have hn := Lib.hid hx.out.small
      have ho := hx.out.out hk0' hk hend
      have hx2 := Lib.hid hx
      clear hx hdig hend
      rcases ho with ⟨g0, gn⟩ | ⟨g0, g6, gn⟩ | ⟨hh, g0, g6, g48, g1, gn⟩ | ⟨hh, g0, g6, g48, g1, gn, gv, ge⟩ | ⟨hh, g0, g6, g48, gn, gv, ge⟩
      · replace gn := Lib.hid gn
        rcases hguard with ⟨hga, hgz⟩ | ⟨hlt, hgb⟩ | ⟨hlt, hgb, hgc⟩ | ⟨hlt, hgb, hgc, hgd⟩
        · go_wp2_with fail
          go_quiet (fail)
          go_wp2_with fail
          go_ret
          exact ⟨n, k, rfl, by rw [gn.out]; simpa using (HR.out.drewN _).setB true, grown_set (grown_drewN hg _) _ _, hk0', hk, hn.out, fun h => by rw [gn.out] at h; cases h⟩
        · go_wp2_with fail
          go_quiet (fail)
          go_wp2_with fail
          go_ret
          exact ⟨n, k, rfl, by rw [gn.out]; simpa using (HR.out.drewN _).setB true, grown_set (grown_drewN hg _) _ _, hk0', hk, hn.out, fun h => by rw [gn.out] at h; cases h⟩
        · go_wp2_with fail
          go_quiet (fail)
          go_wp2_with fail
          go_ret
          exact ⟨n, k, rfl, by rw [gn.out]; simpa using (HR.out.drewN _).setB true, grown_set (grown_drewN hg _) _ _, hk0', hk, hn.out, fun h => by rw [gn.out] at h; cases h⟩
        · go_wp2_with fail
          go_quiet (fail)
          go_wp2_with fail
          go_ret
          exact ⟨n, k, rfl, by rw [gn.out]; simpa using (HR.out.drewN _).setB true, grown_set (grown_drewN hg _) _ _, hk0', hk, hn.out, fun h => by rw [gn.out] at h; cases h⟩
      · replace gn := Lib.hid gn
        rcases hguard with ⟨hga, hgz⟩ | ⟨hlt, hgb⟩ | ⟨hlt, hgb, hgc⟩ | ⟨hlt, hgb, hgc, hgd⟩
        · go_wp2_with fail
          go_quiet (fail)
          go_wp2_with fail
          go_ret
          exact ⟨n, k, rfl, by rw [gn.out]; simpa using (HR.out.drewN _).setB true, grown_set (grown_drewN hg _) _ _, hk0', hk, hn.out, fun h => by rw [gn.out] at h; cases h⟩
        · go_wp2_with fail
          go_quiet (fail)
          go_wp2_with fail
          go_ret
          exact ⟨n, k, rfl, by rw [gn.out]; simpa using (HR.out.drewN _).setB true, grown_set (grown_drewN hg _) _ _, hk0', hk, hn.out, fun h => by rw [gn.out] at h; cases h⟩
        · go_wp2_with fail
          go_quiet (fail)
          go_wp2_with fail
          go_ret
          exact ⟨n, k, rfl, by rw [gn.out]; simpa using (HR.out.drewN _).setB true, grown_set (grown_drewN hg _) _ _, hk0', hk, hn.out, fun h => by rw [gn.out] at h; cases h⟩
        · go_wp2_with fail
          go_quiet (fail)
          go_wp2_with fail
          go_ret
          exact ⟨n, k, rfl, by rw [gn.out]; simpa using (HR.out.drewN _).setB true, grown_set (grown_drewN hg _) _ _, hk0', hk, hn.out, fun h => by rw [gn.out] at h; cases h⟩
      · replace gn := Lib.hid gn
        rcases hguard with ⟨hga, hgz⟩ | ⟨hlt, hgb⟩ | ⟨hlt, hgb, hgc⟩ | ⟨hlt, hgb, hgc, hgd⟩
        · go_wp2_with fail
          go_quiet (fail)
          go_wp2_with fail
          go_ret
          exact ⟨n, k, rfl, by rw [gn.out]; simpa using (HR.out.drewN _).setB true, grown_set (grown_drewN hg _) _ _, hk0', hk, hn.out, fun h => by rw [gn.out] at h; cases h⟩
        · go_wp2_with fail
          go_quiet (fail)
          go_wp2_with fail
          go_ret
          exact ⟨n, k, rfl, by rw [gn.out]; simpa using (HR.out.drewN _).setB true, grown_set (grown_drewN hg _) _ _, hk0', hk, hn.out, fun h => by rw [gn.out] at h; cases h⟩
        · go_wp2_with fail
          go_quiet (fail)
          go_wp2_with fail
          go_ret
          exact ⟨n, k, rfl, by rw [gn.out]; simpa using (HR.out.drewN _).setB true, grown_set (grown_drewN hg _) _ _, hk0', hk, hn.out, fun h => by rw [gn.out] at h; cases h⟩
        · go_wp2_with fail
          go_quiet (fail)
          go_wp2_with fail
          go_ret
          exact ⟨n, k, rfl, by rw [gn.out]; simpa using (HR.out.drewN _).setB true, grown_set (grown_drewN hg _) _ _, hk0', hk, hn.out, fun h => by rw [gn.out] at h; cases h⟩
      · replace gn := Lib.hid gn
        replace gv := Lib.hid gv
        replace ge := Lib.hid ge
        rcases hguard with ⟨hga, hgz⟩ | ⟨hlt, hgb⟩ | ⟨hlt, hgb, hgc⟩ | ⟨hlt, hgb, hgc, hgd⟩
        · go_wp2_with fail
          go_quiet (fail)
          go_wp2_with fail
          go_ret
          exact ⟨n, k, rfl, by rw [gn.out]; simpa using HR.out.drewN _, grown_drewN hg _, hk0', hk, hn.out, fun _ => ⟨gv.out, ge.out⟩⟩
        · go_wp2_with fail
          go_quiet (fail)
          go_wp2_with fail
          go_ret
          exact ⟨n, k, rfl, by rw [gn.out]; simpa using HR.out.drewN _, grown_drewN hg _, hk0', hk, hn.out, fun _ => ⟨gv.out, ge.out⟩⟩
        · go_wp2_with fail
          go_quiet (fail)
          go_wp2_with fail
          go_ret
          exact ⟨n, k, rfl, by rw [gn.out]; simpa using HR.out.drewN _, grown_drewN hg _, hk0', hk, hn.out, fun _ => ⟨gv.out, ge.out⟩⟩
        · go_wp2_with fail
          go_quiet (fail)
          go_wp2_with fail
          go_ret
          exact ⟨n, k, rfl, by rw [gn.out]; simpa using HR.out.drewN _, grown_drewN hg _, hk0', hk, hn.out, fun _ => ⟨gv.out, ge.out⟩⟩
      · replace gn := Lib.hid gn
        replace gv := Lib.hid gv
        replace ge := Lib.hid ge
        rcases hguard with ⟨hga, hgz⟩ | ⟨hlt, hgb⟩ | ⟨hlt, hgb, hgc⟩ | ⟨hlt, hgb, hgc, hgd⟩
        · go_wp2_with fail
          go_quiet (fail)
          go_wp2_with fail
          go_ret
          exact ⟨n, k, rfl, by rw [gn.out]; simpa using HR.out.drewN _, grown_drewN hg _, hk0', hk, hn.out, fun _ => ⟨gv.out, ge.out⟩⟩
        · go_wp2_with fail
          go_quiet (fail)
          go_wp2_with fail
          go_ret
          exact ⟨n, k, rfl, by rw [gn.out]; simpa using HR.out.drewN _, grown_drewN hg _, hk0', hk, hn.out, fun _ => ⟨gv.out, ge.out⟩⟩
        · go_wp2_with fail
          go_quiet (fail)
          go_wp2_with fail
          go_ret
          exact ⟨n, k, rfl, by rw [gn.out]; simpa using HR.out.drewN _, grown_drewN hg _, hk0', hk, hn.out, fun _ => ⟨gv.out, ge.out⟩⟩
        · go_wp2_with fail
          go_quiet (fail)
          go_wp2_with fail
          go_ret
          exact ⟨n, k, rfl, by rw [gn.out]; simpa using HR.out.drewN _, grown_drewN hg _, hk0', hk, hn.out, fun _ => ⟨gv.out, ge.out⟩⟩
end Go.Proofs.YtipnabbdhmapkaaGreatDoor
