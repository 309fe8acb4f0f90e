/- LevelMakes: the law's walk. -/
import Derived.Test.YtpkheelcfkiacaaGreatDoorAwk
import Derived.Test.YtpkheelcfkiacaaGreatDoorFew
import Derived.Test.YtpkheelcfkiacaaGreatDoorRef
import Derived.Deep.RegionHeld3
namespace Go.Proofs.YtpkheelcfkiacaaGreatDoor
open Go.RowKit

theorem LA.one {w : World} {b : Nat} {c : Int} {A : Option Addr} {n cap : Nat} {B : Nat} (h : w.cell? ⟨b, 0, none⟩ = some (.int .i64 c) ∧ w.cell? ⟨b, 1, none⟩ = some (.slice A n cap)) (hb : b < B) : LA w B (some ⟨b, 0, none⟩) [(c, A, n, cap)] :=
  ⟨by simp, fun _ => ⟨b, 0, rfl, hb, fun j c' a' n' k' hj => by
    rcases j with _ | j
    · simp at hj
      obtain ⟨rfl, rfl, rfl, rfl⟩ := hj
      exact ⟨by simpa using h.1, by simpa using h.2⟩
    · simp at hj⟩⟩
theorem few_one (b : Nat) (c : Int) (A : Option Addr) (n cap k : Nat) (w : World) (h : w.cell? ⟨b, 0, none⟩ = some (.int .i64 c) ∧ w.cell? ⟨b, 1, none⟩ = some (.slice A n cap)) (hb : b < w.heap.size) :
    Calls Tryz.prog 13 #[.slice (some ⟨b, 0, none⟩) 1 k] w fun e w' => e = .returned (.bool (decide (n ≤ 12))) ∧ Below w.heap.size w w' := by
  have h1 := few_any (some ⟨b, 0, none⟩) k [(c, A, n, cap)] w.heap.size w (LA.one h hb) (Nat.le_refl _)
  have e : (!bigB [(c, A, n, cap)]) = decide (n ≤ 12) := by
    simp only [bigB, List.any_cons, List.any_nil, Bool.or_false]
    by_cases hn : n ≤ 12
    · simp [hn]
    · simp [hn]
      omega
  rwa [e] at h1

set_option maxRecDepth 100000 in
set_option maxHeartbeats 8000000 in
theorem levelMakes_any (c : Int) (A : Option Addr) (cap : Nat) (vs : List (Int × Int)) (n pl : Int) (w : World) (hv : VA w w.heap.size A vs) (hp : Pow w) :
    Calls Tryz.prog 3 #[.agg #[.int .i64 c, .slice A vs.length cap], .int .i64 n, .int .i64 pl] w fun e w' => e = .returned (.bool true) ∧ Below w.heap.size w w' := by
  have V0 := Lib.hid hv
  have P0 := Lib.hid hp
  clear hv hp
  go_enter Tryz.func3, Tryz.ntmps3
  go_wp2_with fail
  have L0 := LvAt.new w c A vs.length cap
  have L1 := L0.alloc (.cells #[.int .i64 c, .slice A vs.length cap] 24)
  refine (few_one (w.heap.size + 1) c A vs.length cap 1 _ ⟨by go_simp, by go_simp⟩ (by simp)).mono ?_
  rintro e w1 ⟨rfl, hb1⟩
  have B1 := Lib.hid (below_next ((Below.refl w.heap.size w).alloc (Nat.le_refl _) _) hb1)
  have P1 := Lib.hid (P0.out.below B1.out)
  have V1 := Lib.hid (V0.out.box.next hb1)
  have T1 := L1.below hb1
  obtain ⟨t0, t1⟩ := T1.cells
  have tl := T1.lt
  have HT1 := Lib.hid T1
  clear hb1 L0 L1 T1 P0 V0
  by_cases h12 : vs.length ≤ 12
  · have hd : decide (vs.length ≤ 12) = true := by simpa using h12
    go_wp2_with fail
    refine (of_any n _).mono ?_
    rintro e w2 ⟨A2, cap2, rfl, hv2, hb2⟩
    have B2 := Lib.hid (B1.out.trans (hb2.mono B1.out.size))
    have P2 := Lib.hid (P1.out.below hb2)
    have V2 := Lib.hid (V1.out.next0 hb2)
    have HT2 := Lib.hid (HT1.out.below hb2)
    clear hb2 hv2 B1 P1 V1 HT1 t0 t1 tl
    go_wp2_with fail
    refine (rof_any n _).mono ?_
    rintro e w3 ⟨A3, cap3, rfl, hv3, hb3⟩
    have B3 := Lib.hid (below_next B2.out hb3)
    have P3 := Lib.hid (P2.out.next hb3)
    have V3 := Lib.hid (V2.out.next hb3)
    have HT3 := Lib.hid (HT2.out.next hb3)
    have HO3 := Lib.hid ((LvAt.new w2 (ofC n) A2 0 cap2).below hb3)
    clear hb3 hv3 B2 P2 V2 HT2
    go_wp2_with fail
    refine (var_any n pl _).mono ?_
    rintro e w4 ⟨A4, cap4, rfl, hv4, hb4⟩
    have B4 := Lib.hid (below_next B3.out hb4)
    have P4 := Lib.hid (P3.out.next hb4)
    have V4 := Lib.hid (V3.out.next hb4)
    have HT4 := Lib.hid (HT3.out.next hb4)
    have HO4 := Lib.hid (HO3.out.next hb4)
    have HR4 := Lib.hid ((LvAt.new w3 (ofC n) A3 0 cap3).below hb4)
    have X4 := Lib.hid hv4
    clear hb4 hv4 B3 P3 V3 HT3 HO3
    generalize hvv : varV n pl = vv at *
    have HVV := Lib.hid hvv
    clear hvv
    go_wp2_with fail
    refine (rvar_any n pl _).mono ?_
    rintro e w5 ⟨A5, cap5, rfl, hv5, hb5⟩
    rw [HVV.out] at hv5 ⊢
    have B5 := Lib.hid (below_next B4.out hb5)
    have P5 := Lib.hid (P4.out.next hb5)
    have V5 := Lib.hid (V4.out.next hb5)
    have X5 := Lib.hid (X4.out.next hb5)
    have HT5 := Lib.hid (HT4.out.next hb5)
    have HO5 := Lib.hid (HO4.out.next hb5)
    have HR5 := Lib.hid (HR4.out.next hb5)
    have HV5 := Lib.hid ((LvAt.new w4 0 A4 vv.length cap4).below hb5)
    have Y5 := Lib.hid hv5
    clear hb5 hv5 B4 P4 V4 X4 HT4 HO4 HR4
    generalize ofC n = oc at *
    generalize ofE n = oe at *
    generalize varE n pl = ve at *
    have S1 := Lib.hid (show ∀ W, Calls Tryz.prog 21 #[.agg #[.int .i64 oc, .slice A2 0 cap2], .agg #[.int .i64 oc, .slice A3 0 cap3]] W fun e w' => e = .returned (.bool true) ∧ Below W.heap.size W w' from fun W => by
      have h := rsame_any oc A2 cap2 [] oc A3 cap3 [] W.heap.size W VA.nil VA.nil (Nat.le_refl _)
      rwa [sameB_refl] at h)
    have S2 := Lib.hid (show ∀ W, VA W W.heap.size A4 vv → VA W W.heap.size A5 vv → Calls Tryz.prog 21 #[.agg #[.int .i64 0, .slice A4 vv.length cap4], .agg #[.int .i64 0, .slice A5 vv.length cap5]] W fun e w' => e = .returned (.bool true) ∧ Below W.heap.size W w' from fun W h4 h5 => by
      have h := rsame_any 0 A4 cap4 vv 0 A5 cap5 vv W.heap.size W h4 h5 (Nat.le_refl _)
      rwa [sameB_refl] at h)
    go_wp2_with fail
    obtain ⟨W6, hW6⟩ : ∃ W6 : World, W6 = w5.alloc (.cells #[.int .i64 0, .slice A5 vv.length cap5] 24) := ⟨_, rfl⟩
    rw [← hW6]
    have HK := Lib.hid (show ∀ w9, Below W6.drew.heap.size W6.drew w9 → (VA w9 w9.heap.size A vs ∧ VA w9 w9.heap.size A4 vv ∧ VA w9 w9.heap.size A5 vv) ∧ Pow w9 ∧ Below w.heap.size w w9 ∧ LvAt w9 w.heap.size c A vs.length cap ∧ LvAt w9 w2.heap.size oc A2 0 cap2 ∧ LvAt w9 w3.heap.size oc A3 0 cap3 ∧ LvAt w9 w4.heap.size 0 A4 vv.length cap4 ∧ LvAt w9 w5.heap.size 0 A5 vv.length cap5 from fun w9 hb => by
      have hb' : Below (w5.alloc (.cells #[.int .i64 0, .slice A5 vv.length cap5] 24)).heap.size (w5.alloc (.cells #[.int .i64 0, .slice A5 vv.length cap5] 24)) w9 := by
        rw [← hW6]
        exact ⟨hb.os, hb.tape, hb.output, hb.size, hb.block⟩
      exact ⟨⟨V5.out.next hb', X5.out.next hb', Y5.out.next hb'⟩, P5.out.next hb', below_next B5.out hb', HT5.out.next hb', HO5.out.next hb', HR5.out.next hb', HV5.out.next hb', (LvAt.new w5 0 A5 vv.length cap5).below hb'⟩)
    clear hW6 V5 X5 Y5 P5 B5 HT5 HO5 HR5 HV5
    have HS := Lib.hid (show ∀ w', Below W6.drew.heap.size W6.drew w' → w'.cell? ⟨w.heap.size, 0, none⟩ = some (.int .i64 c) ∧ w'.cell? ⟨w.heap.size, 1, none⟩ = some (.slice A vs.length cap) ∧ w'.cell? ⟨w2.heap.size, 0, none⟩ = some (.int .i64 oc) ∧ w'.cell? ⟨w2.heap.size, 1, none⟩ = some (.slice A2 0 cap2) ∧ w'.cell? ⟨w3.heap.size, 0, none⟩ = some (.int .i64 oc) ∧ w'.cell? ⟨w3.heap.size, 1, none⟩ = some (.slice A3 0 cap3) ∧ w'.cell? ⟨w4.heap.size, 0, none⟩ = some (.int .i64 0) ∧ w'.cell? ⟨w4.heap.size, 1, none⟩ = some (.slice A4 vv.length cap4) ∧ w'.cell? ⟨w5.heap.size, 0, none⟩ = some (.int .i64 0) ∧ w'.cell? ⟨w5.heap.size, 1, none⟩ = some (.slice A5 vv.length cap5) from fun w' hb => by
      obtain ⟨_, _, _, k1, k2, k3, k4, k5⟩ := HK.out _ hb
      exact ⟨k1.cells.1, k1.cells.2, k2.cells.1, k2.cells.2, k3.cells.1, k3.cells.2, k4.cells.1, k4.cells.2, k5.cells.1, k5.cells.2⟩)
    have HB := Lib.hid (Below.refl W6.drew.heap.size W6.drew)
    go_region_held3 (fun w' => w'.cell? ⟨w.heap.size, 0, none⟩ = some (.int .i64 c) ∧ w'.cell? ⟨w.heap.size, 1, none⟩ = some (.slice A vs.length cap) ∧ w'.cell? ⟨w2.heap.size, 0, none⟩ = some (.int .i64 oc) ∧ w'.cell? ⟨w2.heap.size, 1, none⟩ = some (.slice A2 0 cap2) ∧ w'.cell? ⟨w3.heap.size, 0, none⟩ = some (.int .i64 oc) ∧ w'.cell? ⟨w3.heap.size, 1, none⟩ = some (.slice A3 0 cap3) ∧ w'.cell? ⟨w4.heap.size, 0, none⟩ = some (.int .i64 0) ∧ w'.cell? ⟨w4.heap.size, 1, none⟩ = some (.slice A4 vv.length cap4) ∧ w'.cell? ⟨w5.heap.size, 0, none⟩ = some (.int .i64 0) ∧ w'.cell? ⟨w5.heap.size, 1, none⟩ = some (.slice A5 vv.length cap5)) (first | exact HS.out _ HB.out)
      (first
      | (go_at_call 19; refine (valid_any c A cap vs _ _ (HK.out _ HB.out).1.1 (Nat.le_refl _)).mono ?_; rintro e w7 ⟨rfl, hb7⟩; have HB := Lib.hid (HB.out.trans (hb7.mono HB.out.size)); clear hb7)
      | (go_at_call 20; refine (rvalid_any c A cap vs _ _ (HK.out _ HB.out).1.1 (Nat.le_refl _)).mono ?_; rintro e w7 ⟨rfl, hb7⟩; have HB := Lib.hid (HB.out.trans (hb7.mono HB.out.size)); clear hb7)
      | (go_at_call_of 21 (Value.slice A2 0 cap2); refine (S1.out _).mono ?_; rintro e w7 ⟨rfl, hb7⟩; have HB := Lib.hid (HB.out.trans (hb7.mono HB.out.size)); clear hb7)
      | (go_at_call_of 21 (Value.slice A4 vv.length cap4); refine (S2.out _ (HK.out _ HB.out).1.2.1 (HK.out _ HB.out).1.2.2).mono ?_; rintro e w7 ⟨rfl, hb7⟩; have HB := Lib.hid (HB.out.trans (hb7.mono HB.out.size)); clear hb7)
      | (go_at_call 14; refine (awake_any _ (HK.out _ HB.out).2.1).mono ?_; rintro e w7 ⟨rfl, hb7⟩; have HB := Lib.hid (HB.out.trans (hb7.mono HB.out.size)); clear hb7))
    all_goals
      go_wp2
      go_ret
      exact ⟨rfl, (HK.out _ HB.out).2.2.1⟩
  · have hd : decide (vs.length ≤ 12) = false := by simpa using h12
    go_wp2_with fail
    refine (awake_any w1 P1.out).mono ?_
    rintro e w2 ⟨rfl, hb2⟩
    have B2 := Lib.hid (B1.out.trans (hb2.mono B1.out.size))
    clear hb2
    go_wp2
    go_ret
    exact ⟨rfl, B2.out⟩
end Go.Proofs.YtpkheelcfkiacaaGreatDoor
