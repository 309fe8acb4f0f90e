/- LevelEvals: the law's walk. -/
import Derived.Test.YtpkheelcfkiacaaGreatDoorLcm
import Derived.Test.YtpkheelcfkiacaaGreatDoorEvm
namespace Go.Proofs.YtpkheelcfkiacaaGreatDoor
open Go.RowKit

theorem few_one (b : Nat) (c1 : Int) (A1 : Option Addr) (n1 cap1 k : Nat) (w : World)
    (h0 : w.cell? ⟨b, 0, none⟩ = some (.int .i64 c1)) (h1 : w.cell? ⟨b, 1, none⟩ = some (.slice A1 n1 cap1)) (hb : b < w.heap.size) :
    Calls Tryz.prog 13 #[.slice (some ⟨b, 0, none⟩) 1 k] w fun e w' => e = .returned (.bool (decide (n1 ≤ 12))) ∧ Below w.heap.size w w' := by
  have hl : LA w w.heap.size (some ⟨b, 0, none⟩) [(c1, A1, n1, cap1)] := ⟨by simp, fun _ => ⟨b, 0, rfl, hb, fun j c' a' n' k' hj => by
    rcases j with _ | j
    · simp at hj
      obtain ⟨rfl, rfl, rfl, rfl⟩ := hj
      exact ⟨by simpa using h0, by simpa using h1⟩
    · simp at hj⟩⟩
  have hc := few_any (some ⟨b, 0, none⟩) k [(c1, A1, n1, cap1)] w.heap.size w hl (Nat.le_refl _)
  have e : (!bigB [(c1, A1, n1, cap1)]) = decide (n1 ≤ 12) := by
    simp only [bigB, List.any_cons, List.any_nil, Bool.or_false]
    by_cases hn1 : n1 ≤ 12 <;> simp [hn1] <;> omega
  rwa [e] at hc

set_option maxRecDepth 100000 in
set_option maxHeartbeats 8000000 in
theorem levelEvals_any (c1 : Int) (A1 : Option Addr) (cap1 : Nat) (v1 : List (Int × Int)) (P : Option Addr) (capp : Nat) (ps : List Int) (w : World) (hv1 : VA w w.heap.size A1 v1) (hi : IA w w.heap.size P ps) (hp : Pow w) :
    Calls Tryz.prog 7 #[.agg #[.int .i64 c1, .slice A1 v1.length cap1], .slice P ps.length capp] w fun e w' => e = .returned (.bool true) ∧ Below w.heap.size w w' := by
  have hlen := hi.len
  have T0 : Hid (TwoLv w (w.alloc (.cells #[.int .i64 c1, .slice A1 v1.length cap1] 24)) w.heap.size c1 A1 cap1 v1 w.heap.size c1 A1 cap1 v1) := Lib.hid (by
    have hb : Below w.heap.size w (w.alloc (.cells #[.int .i64 c1, .slice A1 v1.length cap1] 24)) := (Below.refl _ _).alloc (Nat.le_refl _) _
    exact ⟨hv1.next0 hb, hv1.next0 hb, hp.below hb, hb, LvAt.new w c1 A1 v1.length cap1, LvAt.new w c1 A1 v1.length cap1⟩)
  have I0 := Lib.hid hi
  clear hv1 hp hi
  go_enter Tryz.func7, Tryz.ntmps7
  go_wp2_with fail
  refine (few_one (w.heap.size + 1) c1 A1 v1.length cap1 1 _ (by go_simp) (by go_simp) (by simp)).mono ?_
  rintro e w1 ⟨rfl, hb1⟩
  have T1 := Lib.hid ((T0.out.next ((Below.refl _ _).alloc (Nat.le_refl _) _)).next hb1)
  have I1 : Hid (IA w1 w1.heap.size P ps) := Lib.hid (I0.out.next0 T1.out.below)
  clear hb1 T0 I0
  generalize hdd : decide (v1.length ≤ 12) = dd
  clear hdd
  have AW := Lib.hid (show ∀ W, Below w1.heap.size w1 W → Calls Tryz.prog 14 #[] W fun e w' => e = .returned (.bool true) ∧ Below w.heap.size w w' from fun W hb =>
    (awake_any W (T1.out.pow.below hb)).mono fun e w' h => ⟨h.1, (T1.out.below.trans (hb.mono T1.out.below.size)).trans (h.2.mono (T1.out.next hb).below.size)⟩)
  obtain ⟨x0, x1⟩ := T1.out.at1.cells
  cases dd with
  | false =>
    go_wp2_with fail
    refine (AW.out _ (Below.refl _ _)).mono ?_
    rintro e w2 ⟨rfl, hb2⟩
    have HB2 := Lib.hid hb2
    clear hb2
    go_wp2
    go_ret
    exact ⟨rfl, HB2.out⟩
  | true =>
    by_cases hl : 12 < ps.length
    · have d1 : (12 : Int) < (ps.length : Int) := by omega
      go_wp2_with fail
      refine (AW.out _ (Below.refl _ _)).mono ?_
      rintro e w2 ⟨rfl, hb2⟩
      have HB2 := Lib.hid hb2
      clear hb2
      go_wp2
      go_ret
      exact ⟨rfl, HB2.out⟩
    · have d1 : decide ((12 : Int) < (ps.length : Int)) = false := by simp; omega
      have hE1 := eval_any c1 A1 cap1 v1 P capp ps w1.heap.size w1 T1.out.va1 I1.out (Nat.le_refl _)
      have hE2 := Lib.hid (fun W (hb : Below w1.heap.size w1 W) => reval_any c1 A1 cap1 v1 P capp ps W.heap.size W (T1.out.next hb).va1 (I1.out.next0 hb) (Nat.le_refl _))
      have hM1 := Lib.hid (fun W (hv : VA W W.heap.size A1 v1) => metas_any c1 A1 cap1 v1 W hv)
      have hM2 := Lib.hid (fun W (hv : VA W W.heap.size A1 v1) => rmetas_any c1 A1 cap1 v1 W.heap.size W hv (Nat.le_refl _))
      have hP1 := Lib.hid (fun W (hv : VA W W.heap.size A1 v1) => params_any c1 A1 cap1 v1 W.heap.size W hv (Nat.le_refl _))
      have hP2 := Lib.hid (fun W (hv : VA W W.heap.size A1 v1) => rparams_any c1 A1 cap1 v1 W.heap.size W hv (Nat.le_refl _))
      generalize (evalR ps c1 v1).1 = ea at *
      generalize (evalR ps c1 v1).2 = eb at *
      generalize metL c1 v1 = ms at *
      generalize parI c1 v1 = pq at *
      have HE1 := Lib.hid hE1
      clear hE1
      go_wp2_with fail
      refine HE1.out.mono ?_
      rintro e w2 ⟨rfl, hb2⟩
      have T2 := Lib.hid (T1.out.next hb2)
      have K2 := Lib.hid hb2
      clear hb2 x0 x1 hl d1
      obtain ⟨x0, x1⟩ := T2.out.at1.cells
      go_wp2_with fail
      refine (hE2.out _ K2.out).mono ?_
      rintro e w3 ⟨rfl, hb3⟩
      have HB := Lib.hid (T2.out.next hb3).drew
      have EA : (ea == ea) = true := by simp
      have EB : (eb == eb) = true := by simp
      have EQ : (pq == pq) = true := by simp
      clear hb3 x0 x1 T2 K2
      go_wp2_with fail
      go_region_held3 (fun w' => w'.cell? ⟨w.heap.size, 0, none⟩ = some (.int .i64 c1) ∧ w'.cell? ⟨w.heap.size, 1, none⟩ = some (.slice A1 v1.length cap1))
        (first | exact ⟨HB.out.at1.cells.1, HB.out.at1.cells.2⟩)
        (first
        | (go_at_call 35; refine (hP1.out _ HB.out.va1).mono ?_; rintro e w7 ⟨rfl, hb7⟩; have HB := Lib.hid (HB.out.next hb7); try (have HM := Lib.hid (HM.out.next0 hb7)); try (have HR := Lib.hid (HR.out.next0 hb7)); clear hb7)
        | (go_at_call 36; refine (hP2.out _ HB.out.va1).mono ?_; rintro e w7 ⟨rfl, hb7⟩; have HB := Lib.hid (HB.out.next hb7); try (have HM := Lib.hid (HM.out.next0 hb7)); try (have HR := Lib.hid (HR.out.next0 hb7)); clear hb7)
        | (go_at_call 38; refine (hM1.out _ HB.out.va1).mono ?_; rintro e w7 ⟨A7, cap7, rfl, hia7, hb7⟩; have HB := Lib.hid (HB.out.next hb7); have HM := Lib.hid hia7; try (have HR := Lib.hid (HR.out.next0 hb7)); clear hb7 hia7)
        | (go_at_call 39; refine (hM2.out _ HB.out.va1).mono ?_; rintro e w7 ⟨A8, cap8, rfl, hia8, hb7⟩; have HB := Lib.hid (HB.out.next hb7); have HR := Lib.hid hia8; try (have HM := Lib.hid (HM.out.next0 hb7)); clear hb7 hia8)
        | (go_at_call 37; refine (equalI_any _ _ _ _ ms _ _ HM.out HR.out (Nat.le_refl _)).mono ?_; rintro e w7 ⟨rfl, hb7⟩; have HB := Lib.hid (HB.out.next hb7); clear hb7)
        | (go_at_call 14; refine (awake_any _ HB.out.pow).mono ?_; rintro e w7 ⟨rfl, hb7⟩; have HB := Lib.hid (HB.out.next hb7); clear hb7))
      all_goals
        go_wp2
        go_ret
        exact ⟨rfl, HB.out.below⟩
end Go.Proofs.YtpkheelcfkiacaaGreatDoor
