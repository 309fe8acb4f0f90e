/- The reader of the text of a level: spaces, signs, numbers. -/
import Derived.Test.YtipnabbdhmapkaaGreatDoorShelf
import Derived.Test.YtipnabbdhmapkaaGreatDoorW
namespace Go.Proofs.YtipnabbdhmapkaaGreatDoor
open Go.RowKit

/-- Block b is a reader of the text s that stands at the byte k. -/
def Rd (w : World) (b : Nat) (s : ByteArray) (k : Nat) : Prop := w.heap[b]? = some (.cells #[.string s, .int .i64 (k : Int)] 95 (0, 0))
section
variable {w w' : World} {b : Nat} {s : ByteArray} {k : Nat}
theorem Rd.lt (h : Rd w b s k) : b < w.heap.size := (Array.getElem?_eq_some_iff.1 h).1
theorem Rd.text (h : Rd w b s k) : w.cell? ⟨b, 0, none⟩ = some (.string s) := by simp [World.cell?, show w.heap[b]? = _ from h]
theorem Rd.at_ (h : Rd w b s k) : w.cell? ⟨b, 1, none⟩ = some (.int .i64 (k : Int)) := by simp [World.cell?, show w.heap[b]? = _ from h]
theorem Rd.frozen (h : Rd w b s k) : w.frozen? ⟨b, 1, none⟩ = false := by simp [World.frozen?, show w.heap[b]? = _ from h]
theorem Rd.drewN (h : Rd w b s k) (n : Nat) : Rd (w.drewN n) b s k := h
theorem Rd.set_ (h : Rd w b s k) (n : Nat) : Rd (w.setCell ⟨b, 1, none⟩ (.int .i64 (n : Int))) b s n := by
  have := heap_setCell_same w b 1 _ _ (.int .i64 (n : Int)) h
  unfold Rd
  rw [this]
  rfl
theorem Rd.kept (h : Rd w b s k) {row : Option Nat} (hg : w.grownBy w' row) (hne : some b ≠ row) : Rd w' b s k := (hg.block b h.lt hne).trans h
end
/-- Where the reader in block b stands. -/
def atOf (w : World) (b : Nat) : Nat := (intOf ((w.cell? ⟨b, 1, none⟩).getD undef)).toNat
theorem atOf_rd {w : World} {b : Nat} {s : ByteArray} {k : Nat} (h : Rd w b s k) : atOf w b = k := by unfold atOf; rw [h.at_]; simp [intOf]
theorem grown_drewN {a w : World} {row : Option Nat} (h : a.grownBy w row) (n : Nat) : a.grownBy (w.drewN n) row := ⟨h.os, h.tape, h.output, h.size, h.block⟩
theorem grown_refl (a : World) (row : Option Nat) : a.grownBy a row := ⟨rfl, rfl, rfl, Nat.le_refl _, fun _ _ _ => rfl⟩
theorem grown_trans {a b c : World} {row : Option Nat} (h : a.grownBy b row) (k : b.grownBy c row) : a.grownBy c row :=
  ⟨k.os.trans h.os, k.tape.trans h.tape, k.output.trans h.output, Nat.le_trans h.size k.size, fun i hi hne => (k.block i (Nat.lt_of_lt_of_le hi h.size) hne).trans (h.block i hi hne)⟩
theorem grown_set {a w : World} {b : Nat} (h : a.grownBy w (some b)) (o : Nat) (u : Value) : a.grownBy (w.setCell ⟨b, o, none⟩ u) (some b) :=
  ⟨h.os, h.tape, h.output, by simpa [World.setCell] using h.size, fun i hi hne => (Below.heap_setCell w ⟨b, o, none⟩ u i (fun e => hne (by rw [e]))).trans (h.block i hi hne)⟩
theorem grown_alloc {a w : World} {row : Option Nat} (h : a.grownBy w row) (o : Obj) : a.grownBy (w.alloc o) row :=
  ⟨h.os, h.tape, h.output, Nat.le_trans h.size (by simp), fun i hi hne => (Below.heap_alloc w o i (Nat.lt_of_lt_of_le hi h.size)).trans (h.block i hi hne)⟩

/-- The first place from k on where no space stands. -/
def spEnd (s : ByteArray) (k : Nat) : Nat := k + ((s.data.toList.drop k).takeWhile (· == 32)).length
theorem spEnd_step {s : ByteArray} {k : Nat} (hk : k < s.size) (h : s[k] = 32) : spEnd s k = spEnd s (k + 1) := by
  have hl : k < s.data.toList.length := by simpa using hk
  unfold spEnd
  rw [List.drop_eq_getElem_cons hl, List.takeWhile_cons]
  have h' : s.data[k] = 32 := h
  have : (s.data.toList[k] == 32) = true := by simpa using h'
  rw [this]
  simp only [if_true, List.length_cons]
  omega
theorem spEnd_stop {s : ByteArray} {k : Nat} (hk : k < s.size) (h : s[k] ≠ 32) : spEnd s k = k := by
  have hl : k < s.data.toList.length := by simpa using hk
  unfold spEnd
  rw [List.drop_eq_getElem_cons hl, List.takeWhile_cons]
  have h' : s.data[k] ≠ 32 := h
  have : (s.data.toList[k] == 32) = false := by simpa using h'
  rw [this]
  simp
theorem spEnd_end {s : ByteArray} {k : Nat} (hk : s.size ≤ k) : spEnd s k = k := by
  have hl : s.data.toList.length ≤ k := by simpa using hk
  unfold spEnd
  rw [List.drop_eq_nil_of_le hl]
  simp

set_option maxRecDepth 100000 in
set_option maxHeartbeats 2000000 in
theorem spaces_any (b : Nat) (s : ByteArray) (k0 : Nat) (w : World) (hr : Rd w b s k0) (hk0 : k0 ≤ s.size) (hs : s.size ≤ 65536) :
    Calls Tryz.prog 89 #[.pointer (some ⟨b, 0, none⟩)] w fun e w' => e = .returned (.tuple #[]) ∧ Rd w' b s (spEnd s k0) ∧ w.grownBy w' (some b) := by
  go_enter Tryz.func89, Tryz.ntmps89
  go_wp2
  go_loopw [] (fun wr => ∃ k : Nat, k ≤ s.size ∧ Hid (spEnd s k = spEnd s k0) ∧ Rd wr b s k ∧ w.grownBy wr (some b)) (fun wr => s.size - atOf wr b)
  case atStart => exact ⟨k0, hk0, Lib.hid rfl, hr, grown_refl _ _⟩
  case round =>
    obtain ⟨k, hk, hx, hrd, hg⟩ := hrel
    have h0 := hrd.text
    have h1 := hrd.at_
    have hf := hrd.frozen
    have HR := Lib.hid hrd
    clear hrd
    by_cases hlt : k < s.size
    · by_cases h32 : s[k] = 32
      · have hd : ((s[k].toNat : Int) == 32) = true := by rw [h32]; rfl
        have hx' := Lib.hid ((spEnd_step hlt h32).symm.trans hx.out)
        clear h32
        go_wp2_with fail
        go_quiet (fail)
        go_wp2
        go_roundw
        case rel => exact ⟨k + 1, by omega, hx', by simpa using (HR.out.drewN _).set_ (k + 1), grown_set (grown_drewN hg _) _ _⟩
        case measure => rw [atOf_rd (by simpa using (HR.out.drewN _).set_ (k + 1)), atOf_rd HR.out]; omega
      · have hd : ((s[k].toNat : Int) == 32) = false := by
          rw [beq_eq_false_iff_ne]; intro e; apply h32; apply UInt8.toNat_inj.1; simp; omega
        have hx' := Lib.hid ((spEnd_stop hlt h32).symm.trans hx.out)
        clear h32
        go_wp2_with fail
        go_quiet (fail)
        go_wp2
        go_end0
        exact ⟨rfl, by rw [← hx'.out]; exact HR.out.drewN _, grown_drewN hg _⟩
    · have hx' := Lib.hid ((spEnd_end (s := s) (k := k) (by omega)).symm.trans hx.out)
      have hd : decide ((k : Int) < (s.size : Int)) = false := by simp; omega
      go_wp2_with fail
      go_quiet (fail)
      go_wp2
      go_end0
      exact ⟨rfl, by rw [← hx'.out]; exact HR.out.drewN _, grown_drewN hg _⟩

/-- Whether, behind spaces, the text from k on begins with p. -/
def signB (s : ByteArray) (k : Nat) (p : ByteArray) : Bool := Lib.hasPrefix (s.data.toList.drop (spEnd s k)) p.data.toList
def signEnd (s : ByteArray) (k : Nat) (p : ByteArray) : Nat := if signB s k p = true then spEnd s k + p.size else spEnd s k
theorem spEnd_le {s : ByteArray} {k : Nat} (hk : k ≤ s.size) : spEnd s k ≤ s.size := by
  unfold spEnd
  have h1 : ((s.data.toList.drop k).takeWhile (· == 32)).length ≤ (s.data.toList.drop k).length := (List.takeWhile_sublist _).length_le
  have h2 : (s.data.toList.drop k).length = s.size - k := by simp
  omega

set_option maxRecDepth 100000 in
set_option maxHeartbeats 2000000 in
theorem sign_any (b : Nat) (s p : ByteArray) (k0 : Nat) (w : World) (hr : Rd w b s k0) (hk0 : k0 ≤ s.size) (hs : s.size ≤ 65536) (hp : p.size ≤ 10) :
    Calls Tryz.prog 97 #[.pointer (some ⟨b, 0, none⟩), .string p] w fun e w' => e = .returned (.bool (signB s k0 p)) ∧ Rd w' b s (signEnd s k0 p) ∧ w.grownBy w' (some b) := by
  have hsp := Lib.hid (spaces_any b s k0 w hr hk0 hs)
  have hle := spEnd_le hk0
  have he : Hid (Lib.hasPrefix (s.extract (spEnd s k0) s.size).data.toList p.data.toList = signB s k0 p) := Lib.hid (by
    unfold signB
    have hl : (s.data.toList.drop (spEnd s k0)).length = s.size - spEnd s k0 := by simp
    rw [show (s.extract (spEnd s k0) s.size).data.toList = s.data.toList.drop (spEnd s k0) by
      have h1 : (s.extract (spEnd s k0) s.size).data.toList = List.take (s.size - spEnd s k0) (List.drop (spEnd s k0) s.data.toList) := by simp
      rw [h1]
      exact List.take_of_length_le (by rw [hl]; exact Nat.le_refl _)])
  generalize hK : spEnd s k0 = K at hsp hle he
  cases hb : signB s k0 p with
  | false =>
    have hend := Lib.hid (show signEnd s k0 p = K by simp [signEnd, hb, hK])
    have hpre : Hid (∀ W, Calls Tryz.prog 107 #[.string (s.extract K s.size), .string p] W fun e w' => e = .returned (.bool false) ∧ w' = W) := Lib.hid fun W =>
      (Tryz.strings_HasPrefix _ p W).mono fun e w' h => ⟨h.1.trans (by rw [he.out, hb]), h.2⟩
    clear hb hK
    rw [hend.out]
    go_enter Tryz.func97, Tryz.ntmps97
    go_wp2_with fail
    refine hsp.out.mono ?_
    rintro e w1 ⟨rfl, hr1, hg1⟩
    have h0 := hr1.text
    have h1 := hr1.at_
    have hf := hr1.frozen
    have HR := Lib.hid hr1
    clear hr1
    go_wp2_with fail
    go_quiet ((go_at_call 107; exact Calls.quiet_of_same (hpre.out _)))
    go_wp2_with fail
    go_ret
    exact ⟨rfl, HR.out.drewN _, grown_drewN hg1 _⟩
  | true =>
    have hend := Lib.hid (show signEnd s k0 p = K + p.size by simp [signEnd, hb, hK])
    have hpre : Hid (∀ W, Calls Tryz.prog 107 #[.string (s.extract K s.size), .string p] W fun e w' => e = .returned (.bool true) ∧ w' = W) := Lib.hid fun W =>
      (Tryz.strings_HasPrefix _ p W).mono fun e w' h => ⟨h.1.trans (by rw [he.out, hb]), h.2⟩
    clear hb hK
    rw [hend.out]
    go_enter Tryz.func97, Tryz.ntmps97
    go_wp2_with fail
    refine hsp.out.mono ?_
    rintro e w1 ⟨rfl, hr1, hg1⟩
    have h0 := hr1.text
    have h1 := hr1.at_
    have hf := hr1.frozen
    have HR := Lib.hid hr1
    clear hr1
    go_wp2_with fail
    go_quiet ((go_at_call 107; exact Calls.quiet_of_same (hpre.out _)))
    go_wp2_with fail
    go_ret
    exact ⟨rfl, by simpa using (HR.out.drewN _).set_ (K + p.size), grown_set (grown_drewN hg1 _) _ _⟩
end Go.Proofs.YtipnabbdhmapkaaGreatDoor
