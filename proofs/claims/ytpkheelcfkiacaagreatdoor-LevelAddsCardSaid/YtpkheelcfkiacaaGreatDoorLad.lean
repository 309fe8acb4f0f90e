/- LevelAdds: the law's walk. -/
import Derived.Test.YtpkheelcfkiacaaGreatDoorLcm
import Derived.Test.YtpkheelcfkiacaaGreatDoorRpl
import Derived.Test.YtpkheelcfkiacaaGreatDoorRmx
namespace Go.Proofs.YtpkheelcfkiacaaGreatDoor
open Go.RowKit

/-- A variable that holds a level, and the level's list. -/
structure LvIn (w : World) (b : Nat) (c : Int) (A : Option Addr) (cap : Nat) (vs : List (Int × Int)) : Prop where
  at_ : LvAt w b c A vs.length cap
  va : VA w w.heap.size A vs
theorem LvIn.below {w w' : World} {b : Nat} {c : Int} {A : Option Addr} {cap : Nat} {vs : List (Int × Int)} (h : LvIn w b c A cap vs) (hb : Below w.heap.size w w') : LvIn w' b c A cap vs := ⟨h.at_.below hb, h.va.next0 hb⟩
theorem LvIn.new {w : World} {c : Int} {A : Option Addr} {cap : Nat} {vs : List (Int × Int)} (h : VA w w.heap.size A vs) : LvIn (w.alloc (.cells #[.int .i64 c, .slice A vs.length cap] 24)) w.heap.size c A cap vs := ⟨LvAt.new w c A vs.length cap, h.box⟩
theorem LvIn.next {w w' : World} {b : Nat} {c : Int} {A : Option Addr} {cap : Nat} {vs : List (Int × Int)} (h : LvIn w b c A cap vs) {o : Obj} (hb : Below (w.alloc o).heap.size (w.alloc o) w') : LvIn w' b c A cap vs := ⟨h.at_.next hb, h.va.next hb⟩
theorem same_in {W : World} {b1 b2 : Nat} {c : Int} {A1 A2 : Option Addr} {cap1 cap2 : Nat} {vs : List (Int × Int)} (h1 : LvIn W b1 c A1 cap1 vs) (h2 : LvIn W b2 c A2 cap2 vs) :
    Calls Tryz.prog 21 #[.agg #[.int .i64 c, .slice A1 vs.length cap1], .agg #[.int .i64 c, .slice A2 vs.length cap2]] W fun e w' => e = .returned (.bool true) ∧ Below W.heap.size W w' := by
  have h := rsame_any c A1 cap1 vs c A2 cap2 vs W.heap.size W h1.va h2.va (Nat.le_refl _)
  rwa [sameB_refl] at h

set_option maxRecDepth 100000 in
set_option maxHeartbeats 8000000 in
theorem levelAdds_any (c1 : Int) (A1 : Option Addr) (cap1 : Nat) (v1 : List (Int × Int)) (c2 : Int) (A2 : Option Addr) (cap2 : Nat) (v2 : List (Int × Int)) (n : Int) (w : World) (hv1 : VA w w.heap.size A1 v1) (hv2 : VA w w.heap.size A2 v2) (hp : Pow w) :
    Calls Tryz.prog 4 #[.agg #[.int .i64 c1, .slice A1 v1.length cap1], .agg #[.int .i64 c2, .slice A2 v2.length cap2], .int .i64 n] w fun e w' => e = .returned (.bool true) ∧ Below w.heap.size w w' := by
  have T0 : Hid (TwoLv w ((w.alloc (.cells #[.int .i64 c1, .slice A1 v1.length cap1] 24)).alloc (.cells #[.int .i64 c2, .slice A2 v2.length cap2] 24)) w.heap.size c1 A1 cap1 v1 (w.heap.size + 1) c2 A2 cap2 v2) := Lib.hid (by
    have hb : Below w.heap.size w ((w.alloc (.cells #[.int .i64 c1, .slice A1 v1.length cap1] 24)).alloc (.cells #[.int .i64 c2, .slice A2 v2.length cap2] 24)) := ((Below.refl _ _).alloc (Nat.le_refl _) _).alloc (by simp) _
    refine ⟨hv1.next0 hb, hv2.next0 hb, hp.below hb, hb, (LvAt.new w c1 A1 v1.length cap1).alloc _, ?_⟩
    have := LvAt.new (w.alloc (.cells #[.int .i64 c1, .slice A1 v1.length cap1] 24)) c2 A2 v2.length cap2
    simpa using this)
  clear hv1 hv2 hp
  go_enter Tryz.func4, Tryz.ntmps4
  go_wp2_with fail
  refine (few_two (w.heap.size + 1 + 1) c1 A1 v1.length cap1 c2 A2 v2.length cap2 2 _ (by go_simp) (by go_simp) (by go_simp) (by go_simp) (by simp)).mono ?_
  rintro e w1 ⟨rfl, hb1⟩
  have T1 := Lib.hid ((T0.out.next ((Below.refl _ _).alloc (Nat.le_refl _) _)).next hb1)
  clear hb1 T0
  generalize hdd : (decide (v1.length ≤ 12) && decide (v2.length ≤ 12)) = dd
  have HD := Lib.hid hdd
  clear hdd
  obtain ⟨x0, x1⟩ := T1.out.at1.cells
  obtain ⟨y0, y1⟩ := T1.out.at2.cells
  cases dd with
  | false =>
    go_wp2_with fail
    refine (awake_any w1 T1.out.pow).mono ?_
    rintro e w2 ⟨rfl, hb2⟩
    have T2 := Lib.hid (T1.out.next hb2)
    clear hb2
    go_wp2
    go_ret
    exact ⟨rfl, T2.out.below⟩
  | true =>
    have hsz : v1.length ≤ 12 ∧ v2.length ≤ 12 := by
      have := HD.out
      simpa using this
    have HSZ := Lib.hid hsz
    clear hsz
    go_wp2_with fail
    refine (plus_any c1 A1 cap1 v1 n _ _ T1.out.va1 (Nat.le_refl _)).mono ?_
    rintro e w2 ⟨A3, cap3, rfl, hv3, hb2⟩
    have T2 := Lib.hid (T1.out.next hb2)
    have X2 := Lib.hid hv3
    clear hb2 hv3 T1 x0 x1 y0 y1
    obtain ⟨x0, x1⟩ := T2.out.at1.cells
    obtain ⟨y0, y1⟩ := T2.out.at2.cells
    have xl := T2.out.at1.lt
    have yl := T2.out.at2.lt
    go_wp2_with fail
    refine (rplus_any c1 A1 cap1 v1 n _ _ T2.out.va1.box (Nat.le_refl _) (by have := HSZ.out; omega)).mono ?_
    rintro e w3 ⟨A4, cap4, rfl, hv4, hb3⟩
    have T3 := Lib.hid ((T2.out.next ((Below.refl _ _).alloc (Nat.le_refl _) _)).next hb3)
    have X3 := Lib.hid ((LvIn.new X2.out).below hb3)
    have Y3 := Lib.hid hv4
    clear hb3 hv4 T2 X2 x0 x1 y0 y1 xl yl
    generalize plusC c1 v1 n = pc at *
    generalize plusE c1 v1 n = pe at *
    generalize hpv : plusV c1 v1 n = pv at *
    obtain ⟨x0, x1⟩ := T3.out.at1.cells
    obtain ⟨y0, y1⟩ := T3.out.at2.cells
    have xl := T3.out.at1.lt
    have yl := T3.out.at2.lt
    clear hpv
    go_wp2_with fail
    refine (max_any c1 A1 cap1 v1 c2 A2 cap2 v2 _ _ T3.out.va1.box T3.out.va2.box (Nat.le_refl _) (by have := HSZ.out; omega)).mono ?_
    rintro e w4 ⟨A5, cap5, rfl, hv5, hb4⟩
    have T4 := Lib.hid ((T3.out.next ((Below.refl _ _).alloc (Nat.le_refl _) _)).next hb4)
    have X4 := Lib.hid (X3.out.next hb4)
    have Y4 := Lib.hid ((LvIn.new Y3.out).below hb4)
    have U4 := Lib.hid hv5
    clear hb4 hv5 T3 X3 Y3 x0 x1 y0 y1 xl yl
    obtain ⟨x0, x1⟩ := T4.out.at1.cells
    obtain ⟨y0, y1⟩ := T4.out.at2.cells
    have xl := T4.out.at1.lt
    have yl := T4.out.at2.lt
    go_wp2_with fail
    refine (rmax_any c1 A1 cap1 v1 c2 A2 cap2 v2 _ _ T4.out.va1.box T4.out.va2.box (Nat.le_refl _) (by have := HSZ.out; omega) (by have := HSZ.out; omega)).mono ?_
    rintro e w5 ⟨A6, cap6, rfl, hv6, hb5⟩
    have T5 := Lib.hid ((T4.out.next ((Below.refl _ _).alloc (Nat.le_refl _) _)).next hb5)
    have X5 := Lib.hid (X4.out.next hb5)
    have Y5 := Lib.hid (Y4.out.next hb5)
    have U5 := Lib.hid ((LvIn.new U4.out).below hb5)
    have Z5 := Lib.hid hv6
    clear hb5 hv6 T4 X4 Y4 U4 x0 x1 y0 y1 xl yl
    generalize maxC c1 v1 c2 v2 = mc at *
    generalize maxE c1 v1 c2 v2 = me at *
    generalize maxV c1 v1 c2 v2 = mv at *
    obtain ⟨x0, x1⟩ := X5.out.at_.cells
    obtain ⟨y0, y1⟩ := Y5.out.at_.cells
    have xl := X5.out.at_.lt
    have yl := Y5.out.at_.lt
    go_wp2_with fail
    refine (same_in (X5.out.below ((Below.refl _ _).alloc (Nat.le_refl _) _)) (Y5.out.below ((Below.refl _ _).alloc (Nat.le_refl _) _))).mono ?_
    rintro e w6 ⟨rfl, hb6⟩
    have T6 := Lib.hid ((T5.out.next ((Below.refl _ _).alloc (Nat.le_refl _) _)).next hb6)
    have U6 := Lib.hid (U5.out.next hb6)
    have V6 := Lib.hid ((LvIn.new Z5.out).below hb6)
    clear hb6 T5 U5 Z5 X5 Y5 x0 x1 y0 y1 xl yl
    obtain ⟨x0, x1⟩ := U6.out.at_.cells
    obtain ⟨y0, y1⟩ := V6.out.at_.cells
    go_wp2_with fail
    refine (same_in U6.out V6.out).mono ?_
    rintro e w7 ⟨rfl, hb7⟩
    have T7 := Lib.hid (T6.out.next hb7)
    clear hb7 T6 U6 V6 x0 x1 y0 y1
    go_wp2_with fail
    refine (awake_any w7 T7.out.pow).mono ?_
    rintro e w8 ⟨rfl, hb8⟩
    have T8 := Lib.hid (T7.out.next hb8)
    clear hb8
    go_wp2
    go_ret
    exact ⟨rfl, T8.out.below⟩
end Go.Proofs.YtpkheelcfkiacaaGreatDoor
