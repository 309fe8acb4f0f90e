/- LevelCompares: the law's walk. -/
import Derived.Test.YtipnabbdhmapkaaGreatDoorAwk
import Derived.Test.YtipnabbdhmapkaaGreatDoorFew
import Derived.Test.YtipnabbdhmapkaaGreatDoorSam
import Derived.Test.YtipnabbdhmapkaaGreatDoorRleq
import Derived.Test.YtipnabbdhmapkaaGreatDoorLeqb
import Derived.Deep.RegionHeld3
namespace Go.Proofs.YtipnabbdhmapkaaGreatDoor
open Go.RowKit

/-! LevelCompares: the law's walk. -/

theorem leq_any (c1 : Int) (A1 : Option Addr) (cap1 : Nat) (v1 : List (Int × Int)) (c2 : Int) (A2 : Option Addr) (cap2 : Nat) (v2 : List (Int × Int)) (B : Nat) (w : World) (hv1 : VA w B A1 v1) (hv2 : VA w B A2 v2) (hB : B ≤ w.heap.size) :
    Calls Tryz.prog 26 #[.agg #[.int .i64 c1, .slice A1 v1.length cap1], .agg #[.int .i64 c2, .slice A2 v2.length cap2]] w fun e w' => e = .returned (.bool (leqB c1 v1 c2 v2)) ∧ Below w.heap.size w w' := by
  cases h1 : vldB c1 v1 with
  | false =>
    rw [leqB_1 h1]
    exact leq_bad1 c1 A1 cap1 v1 c2 A2 cap2 v2 B w hv1 hv2 hB h1
  | true =>
    cases h2 : vldB c2 v2 with
    | false =>
      rw [leqB_2 h2]
      exact leq_bad2 c1 A1 cap1 v1 c2 A2 cap2 v2 B w hv1 hv2 hB h1 h2
    | true =>
      have e : leqB c1 v1 c2 v2 = (decide (c1 ≤ leastI c2 v2) && v1.all (coverB v2)) := by simp [leqB, h1, h2]
      rw [e]
      exact leq_good c1 A1 cap1 v1 c2 A2 cap2 v2 B w hv1 hv2 hB h1 h2

theorem leqB_refl (c : Int) (vs : List (Int × Int)) : leqB c vs c vs = vldB c vs := by
  have h1 : decide (c ≤ leastI c vs) = true := by simpa using (leastI_ge c vs).1
  have h2 : vs.all (coverB vs) = true := by
    rw [List.all_eq_true]
    intro p hp
    exact List.any_eq_true.2 ⟨p, hp, by simp⟩
  simp [leqB, h1, h2]

theorem few_two (b : Nat) (c1 : Int) (A1 : Option Addr) (n1 cap1 : Nat) (c2 : Int) (A2 : Option Addr) (n2 cap2 k : Nat) (w : World)
    (h0 : w.cell? ⟨b, 0, none⟩ = some (.int .i64 c1)) (h1 : w.cell? ⟨b, 1, none⟩ = some (.slice A1 n1 cap1)) (h2 : w.cell? ⟨b, 2, none⟩ = some (.int .i64 c2)) (h3 : w.cell? ⟨b, 3, none⟩ = some (.slice A2 n2 cap2)) (hb : b < w.heap.size) :
    Calls Tryz.prog 13 #[.slice (some ⟨b, 0, none⟩) 2 k] w fun e w' => e = .returned (.bool (decide (n1 ≤ 12) && decide (n2 ≤ 12))) ∧ Below w.heap.size w w' := by
  have hl : LA w w.heap.size (some ⟨b, 0, none⟩) [(c1, A1, n1, cap1), (c2, A2, n2, cap2)] := ⟨by simp, fun _ => ⟨b, 0, rfl, hb, fun j c' a' n' k' hj => by
    rcases j with _ | _ | j
    · simp at hj
      obtain ⟨rfl, rfl, rfl, rfl⟩ := hj
      exact ⟨by simpa using h0, by simpa using h1⟩
    · simp at hj
      obtain ⟨rfl, rfl, rfl, rfl⟩ := hj
      exact ⟨by simpa using h2, by simpa using h3⟩
    · simp at hj⟩⟩
  have hc := few_any (some ⟨b, 0, none⟩) k [(c1, A1, n1, cap1), (c2, A2, n2, cap2)] w.heap.size w hl (Nat.le_refl _)
  have e : (!bigB [(c1, A1, n1, cap1), (c2, A2, n2, cap2)]) = (decide (n1 ≤ 12) && decide (n2 ≤ 12)) := by
    simp only [bigB, List.any_cons, List.any_nil, Bool.or_false]
    by_cases hn1 : n1 ≤ 12 <;> by_cases hn2 : n2 ≤ 12 <;> simp [hn1, hn2] <;> omega
  rwa [e] at hc

/-- What holds behind a call: the two levels and their variables lie as they lay. -/
structure TwoLv (w0 w : World) (b1 : Nat) (c1 : Int) (A1 : Option Addr) (cap1 : Nat) (v1 : List (Int × Int)) (b2 : Nat) (c2 : Int) (A2 : Option Addr) (cap2 : Nat) (v2 : List (Int × Int)) : Prop where
  va1 : VA w w.heap.size A1 v1
  va2 : VA w w.heap.size A2 v2
  pow : Pow w
  below : Below w0.heap.size w0 w
  at1 : LvAt w b1 c1 A1 v1.length cap1
  at2 : LvAt w b2 c2 A2 v2.length cap2
theorem TwoLv.next {w0 w w' : World} {b1 : Nat} {c1 : Int} {A1 : Option Addr} {cap1 : Nat} {v1 : List (Int × Int)} {b2 : Nat} {c2 : Int} {A2 : Option Addr} {cap2 : Nat} {v2 : List (Int × Int)} (h : TwoLv w0 w b1 c1 A1 cap1 v1 b2 c2 A2 cap2 v2) (hb : Below w.heap.size w w') : TwoLv w0 w' b1 c1 A1 cap1 v1 b2 c2 A2 cap2 v2 :=
  ⟨h.va1.next0 hb, h.va2.next0 hb, h.pow.below hb, h.below.trans (hb.mono h.below.size), h.at1.below hb, h.at2.below hb⟩
theorem TwoLv.drew {w0 w : World} {b1 : Nat} {c1 : Int} {A1 : Option Addr} {cap1 : Nat} {v1 : List (Int × Int)} {b2 : Nat} {c2 : Int} {A2 : Option Addr} {cap2 : Nat} {v2 : List (Int × Int)} (h : TwoLv w0 w b1 c1 A1 cap1 v1 b2 c2 A2 cap2 v2) : TwoLv w0 w.drew b1 c1 A1 cap1 v1 b2 c2 A2 cap2 v2 :=
  h.next ⟨rfl, rfl, rfl, Nat.le_refl _, fun _ _ => rfl⟩

set_option maxRecDepth 100000 in
set_option maxHeartbeats 8000000 in
theorem levelCompares_any (c1 : Int) (A1 : Option Addr) (cap1 : Nat) (v1 : List (Int × Int)) (c2 : Int) (A2 : Option Addr) (cap2 : Nat) (v2 : List (Int × Int)) (w : World) (hv1 : VA w w.heap.size A1 v1) (hv2 : VA w w.heap.size A2 v2) (hp : Pow w) :
    Calls Tryz.prog 5 #[.agg #[.int .i64 c1, .slice A1 v1.length cap1], .agg #[.int .i64 c2, .slice A2 v2.length cap2]] w fun e w' => e = .returned (.bool true) ∧ Below w.heap.size w w' := by
  have T0 : Hid (TwoLv w ((w.alloc (.cells #[.int .i64 c1, .slice A1 v1.length cap1] 24)).alloc (.cells #[.int .i64 c2, .slice A2 v2.length cap2] 24)) w.heap.size c1 A1 cap1 v1 (w.heap.size + 1) c2 A2 cap2 v2) := Lib.hid (by
    have hb : Below w.heap.size w ((w.alloc (.cells #[.int .i64 c1, .slice A1 v1.length cap1] 24)).alloc (.cells #[.int .i64 c2, .slice A2 v2.length cap2] 24)) := ((Below.refl _ _).alloc (Nat.le_refl _) _).alloc (by simp) _
    refine ⟨hv1.next0 hb, hv2.next0 hb, hp.below hb, hb, (LvAt.new w c1 A1 v1.length cap1).alloc _, ?_⟩
    have := LvAt.new (w.alloc (.cells #[.int .i64 c1, .slice A1 v1.length cap1] 24)) c2 A2 v2.length cap2
    simpa using this)
  clear hv1 hv2 hp
  go_enter Tryz.func5, Tryz.ntmps5
  go_wp2_with fail
  refine (few_two (w.heap.size + 1 + 1) c1 A1 v1.length cap1 c2 A2 v2.length cap2 2 _ (by go_simp) (by go_simp) (by go_simp) (by go_simp) (by simp)).mono ?_
  rintro e w1 ⟨rfl, hb1⟩
  have T1 := Lib.hid ((T0.out.next ((Below.refl _ _).alloc (Nat.le_refl _) _)).next hb1)
  clear hb1 T0
  generalize hdd : (decide (v1.length ≤ 12) && decide (v2.length ≤ 12)) = dd
  clear hdd
  cases dd with
  | true =>
    have S1 := Lib.hid (leqB_refl c1 v1)
    have S2 := Lib.hid (sameB_refl c1 v1)
    obtain ⟨x0, x1⟩ := T1.out.at1.cells
    obtain ⟨y0, y1⟩ := T1.out.at2.cells
    go_wp2_with fail
    have HB := Lib.hid T1.out.drew
    go_region_held3 (fun w' => w'.cell? ⟨w.heap.size, 0, none⟩ = some (.int .i64 c1) ∧ w'.cell? ⟨w.heap.size, 1, none⟩ = some (.slice A1 v1.length cap1) ∧ w'.cell? ⟨w.heap.size + 1, 0, none⟩ = some (.int .i64 c2) ∧ w'.cell? ⟨w.heap.size + 1, 1, none⟩ = some (.slice A2 v2.length cap2))
      (first | exact ⟨HB.out.at1.cells.1, HB.out.at1.cells.2, HB.out.at2.cells.1, HB.out.at2.cells.2⟩)
      (first
      | (go_at_call 20; refine (rvalid_any c1 A1 cap1 v1 _ _ HB.out.va1 (Nat.le_refl _)).mono ?_; rintro e w7 ⟨rfl, hb7⟩; have HB := Lib.hid (HB.out.next hb7); clear hb7)
      | (go_at_call 27; refine (rleq_any c1 A1 cap1 v1 c2 A2 cap2 v2 _ _ HB.out.va1 HB.out.va2 (Nat.le_refl _)).mono ?_; rintro e w7 ⟨rfl, hb7⟩; have HB := Lib.hid (HB.out.next hb7); clear hb7)
      | (go_at_call 21; refine (rsame_any c1 A1 cap1 v1 c2 A2 cap2 v2 _ _ HB.out.va1 HB.out.va2 (Nat.le_refl _)).mono ?_; rintro e w7 ⟨rfl, hb7⟩; have HB := Lib.hid (HB.out.next hb7); clear hb7)
      | (go_at_call_of 26 (Value.slice A2 v2.length cap2); refine (leq_any c1 A1 cap1 v1 c2 A2 cap2 v2 _ _ HB.out.va1 HB.out.va2 (Nat.le_refl _)).mono ?_; rintro e w7 ⟨rfl, hb7⟩; have HB := Lib.hid (HB.out.next hb7); clear hb7)
      | (go_at_call 26; refine (leq_any c1 A1 cap1 v1 c1 A1 cap1 v1 _ _ HB.out.va1 HB.out.va1 (Nat.le_refl _)).mono ?_; rw [S1.out]; rintro e w7 ⟨rfl, hb7⟩; have HB := Lib.hid (HB.out.next hb7); clear hb7)
      | (go_at_call_of 28 (Value.slice A2 v2.length cap2); refine (same_any c1 A1 cap1 v1 c2 A2 cap2 v2 _ _ HB.out.va1 HB.out.va2 (Nat.le_refl _)).mono ?_; rintro e w7 ⟨rfl, hb7⟩; have HB := Lib.hid (HB.out.next hb7); clear hb7)
      | (go_at_call 28; refine (same_any c1 A1 cap1 v1 c1 A1 cap1 v1 _ _ HB.out.va1 HB.out.va1 (Nat.le_refl _)).mono ?_; rw [S2.out]; rintro e w7 ⟨rfl, hb7⟩; have HB := Lib.hid (HB.out.next hb7); clear hb7)
      | (go_at_call 14; refine (awake_any _ HB.out.pow).mono ?_; rintro e w7 ⟨rfl, hb7⟩; have HB := Lib.hid (HB.out.next hb7); clear hb7))
    all_goals
      go_wp2
      go_ret
      exact ⟨rfl, HB.out.below⟩
  | false =>
    go_wp2_with fail
    refine (awake_any w1 T1.out.pow).mono ?_
    rintro e w2 ⟨rfl, hb2⟩
    have T2 := Lib.hid (T1.out.next hb2)
    clear hb2
    go_wp2
    go_ret
    exact ⟨rfl, T2.out.below⟩

/-! A variable that holds a level; few of one level. -/

/-- A variable that holds a level, and the level's list. -/
structure LvIn (w : World) (b : Nat) (c : Int) (A : Option Addr) (cap : Nat) (vs : List (Int × Int)) : Prop where
  at_ : LvAt w b c A vs.length cap
  va : VA w w.heap.size A vs
theorem LvIn.below {w w' : World} {b : Nat} {c : Int} {A : Option Addr} {cap : Nat} {vs : List (Int × Int)} (h : LvIn w b c A cap vs) (hb : Below w.heap.size w w') : LvIn w' b c A cap vs := ⟨h.at_.below hb, h.va.next0 hb⟩
theorem LvIn.new {w : World} {c : Int} {A : Option Addr} {cap : Nat} {vs : List (Int × Int)} (h : VA w w.heap.size A vs) : LvIn (w.alloc (.cells #[.int .i64 c, .slice A vs.length cap] 24)) w.heap.size c A cap vs := ⟨LvAt.new w c A vs.length cap, h.box⟩
theorem LvIn.next {w w' : World} {b : Nat} {c : Int} {A : Option Addr} {cap : Nat} {vs : List (Int × Int)} (h : LvIn w b c A cap vs) {o : Obj} (hb : Below (w.alloc o).heap.size (w.alloc o) w') : LvIn w' b c A cap vs := ⟨h.at_.next hb, h.va.next hb⟩
theorem same_in {W : World} {b1 b2 : Nat} {c : Int} {A1 A2 : Option Addr} {cap1 cap2 : Nat} {vs : List (Int × Int)} (h1 : LvIn W b1 c A1 cap1 vs) (h2 : LvIn W b2 c A2 cap2 vs) :
    Calls Tryz.prog 21 #[.agg #[.int .i64 c, .slice A1 vs.length cap1], .agg #[.int .i64 c, .slice A2 vs.length cap2]] W fun e w' => e = .returned (.bool true) ∧ Below W.heap.size W w' := by
  have h := rsame_any c A1 cap1 vs c A2 cap2 vs W.heap.size W h1.va h2.va (Nat.le_refl _)
  rwa [sameB_refl] at h
theorem few_one (b : Nat) (c1 : Int) (A1 : Option Addr) (n1 cap1 k : Nat) (w : World)
    (h0 : w.cell? ⟨b, 0, none⟩ = some (.int .i64 c1)) (h1 : w.cell? ⟨b, 1, none⟩ = some (.slice A1 n1 cap1)) (hb : b < w.heap.size) :
    Calls Tryz.prog 13 #[.slice (some ⟨b, 0, none⟩) 1 k] w fun e w' => e = .returned (.bool (decide (n1 ≤ 12))) ∧ Below w.heap.size w w' := by
  have hl : LA w w.heap.size (some ⟨b, 0, none⟩) [(c1, A1, n1, cap1)] := ⟨by simp, fun _ => ⟨b, 0, rfl, hb, fun j c' a' n' k' hj => by
    rcases j with _ | j
    · simp at hj
      obtain ⟨rfl, rfl, rfl, rfl⟩ := hj
      exact ⟨by simpa using h0, by simpa using h1⟩
    · simp at hj⟩⟩
  have hc := few_any (some ⟨b, 0, none⟩) k [(c1, A1, n1, cap1)] w.heap.size w hl (Nat.le_refl _)
  have e : (!bigB [(c1, A1, n1, cap1)]) = decide (n1 ≤ 12) := by
    simp only [bigB, List.any_cons, List.any_nil, Bool.or_false]
    by_cases hn1 : n1 ≤ 12 <;> simp [hn1] <;> omega
  rwa [e] at hc
end Go.Proofs.YtipnabbdhmapkaaGreatDoor
