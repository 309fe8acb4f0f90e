/- Decimal of the reference, for every number that a level writes. -/
import Derived.Test.YtipnabbdhmapkaaGreatDoorDec
namespace Go.Proofs.YtipnabbdhmapkaaGreatDoor
open Go.RowKit

theorem dec_quo (n : Nat) (h : n ≤ 1000000) : IntKind.i64.wrap ((n : Int) / 10) = ((n / 10 : Nat) : Int) := by
  rw [IntKind.wrap_i64]
  omega
theorem dec_dig (n : Nat) : IntKind.u8.wrap (48 + IntKind.u8.wrap ((n : Int).tmod 10)) = ((48 + n % 10 : Nat) : Int) := by
  have e1 : (n : Int).tmod 10 = ((n % 10 : Nat) : Int) := by
    rw [Int.tmod_eq_emod_of_nonneg (by omega)]
    omega
  have e2 : n % 10 < 10 := Nat.mod_lt _ (by omega)
  rw [e1]
  generalize n % 10 = m at *
  have hm : m = 0 ∨ m = 1 ∨ m = 2 ∨ m = 3 ∨ m = 4 ∨ m = 5 ∨ m = 6 ∨ m = 7 ∨ m = 8 ∨ m = 9 := by omega
  rcases hm with rfl | rfl | rfl | rfl | rfl | rfl | rfl | rfl | rfl | rfl <;> rfl

set_option maxRecDepth 100000 in
set_option maxHeartbeats 1000000 in
theorem decimal_any (n : Nat) : ∀ (w : World), n ≤ 1000000 → Calls Tryz.prog 68 #[.int .i64 (n : Int)] w fun e w' => e = .returned (.string ⟨(Lib.decDigits n).toArray⟩) ∧ Below w.heap.size w w' := by
  induction n using Nat.strongRecOn with
  | ind n ih =>
    intro w hn
    by_cases h : n < 10
    · exact decimal_one n h w
    · have hi := Lib.hid (fun W => ih (n / 10) (by omega) W (by omega))
      rw [← dec_quo n hn] at hi
      have hlen := dec_len (n := n / 10) (by omega)
      have HST : Hid ((⟨(Lib.decDigits (n / 10)).toArray⟩ : ByteArray) ++ ⟨#[UInt8.ofNat (IntKind.u8.wrap (48 + IntKind.u8.wrap ((n : Int).tmod 10))).toNat]⟩ = ⟨(Lib.decDigits n).toArray⟩) := Lib.hid (by
        rw [dec_step h, dec_dig n, Int.toNat_natCast]
        apply ByteArray.ext
        simp)
      have q9 := byte_new
      have HQ := Lib.hid (show ∀ (t : TypeId) (w2 : World), Below ((w.alloc (.cells #[.int .u8 (IntKind.u8.wrap (48 + IntKind.u8.wrap ((n : Int).tmod 10)))] t)).drew).heap.size ((w.alloc (.cells #[.int .u8 (IntKind.u8.wrap (48 + IntKind.u8.wrap ((n : Int).tmod 10)))] t)).drew) w2 → (convert 121 9 (.slice (some ⟨w.heap.size, 0, none⟩) 1 1)).run Tryz.prog w2 = .ok (.string ⟨#[UInt8.ofNat (IntKind.u8.wrap (48 + IntKind.u8.wrap ((n : Int).tmod 10))).toNat]⟩) w2 from fun t w2 hb => byte_text w2 w.heap.size _ ((hb.cell (p := ⟨w.heap.size, 0, none⟩) (by show w.heap.size < (w.heap.push _).size; simp)).trans (by go_simp)))
      have q7 : ∀ (x : Int) (t : TypeId), (convert 121 9 (.slice (some ⟨w.heap.size, 0, none⟩) 1 1)).run Tryz.prog ((w.alloc (.cells #[.int .u8 x] t)).drew) = .ok (.string ⟨#[UInt8.ofNat x.toNat]⟩) ((w.alloc (.cells #[.int .u8 x] t)).drew) := fun x t => byte_text _ _ x (by go_simp)
      have h10 : ¬ ((n : Int) < 10) := by omega
      clear ih
      go_enter Tryz.func68, Tryz.ntmps68
      go_wp2_with fail
      generalize hds : Lib.decDigits (n / 10) = ds at *
      have hif : ¬ (9223372036854775807 < ds.length + 1) := by omega
      go_region_law (first
        | (go_simp; go_at_call 68; refine (hi.out _).mono ?_; rintro e w2 ⟨rfl, hb2⟩; try (have q8 := HQ.out _ _ hb2); have HB2 := Lib.hid hb2; clear hb2))
      all_goals
        go_wp2_with fail
        go_ret
        refine ⟨congrArg (fun b => Ending.returned (Value.string b)) HST.out, ?_⟩
        first
        | exact (((Below.refl w.heap.size w).alloc (Nat.le_refl _) _).drew).trans (HB2.out.mono (by simp))
        | exact (((Below.refl w.heap.size w).drew).trans HB2.out).alloc (by simpa using HB2.out.size) _
        | exact (((Below.refl w.heap.size w).alloc (Nat.le_refl _) _).drew).trans (hb2.mono (by simp))
        | exact (((Below.refl w.heap.size w).drew).trans hb2).alloc (by simpa using hb2.size) _
        | (trace_state; fail)
end Go.Proofs.YtipnabbdhmapkaaGreatDoor
