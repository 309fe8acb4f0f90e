/- LevelTexts: the law's walk. -/
import Derived.Test.YtipnabbdhmapkaaGreatDoorLvi
import Derived.Test.YtipnabbdhmapkaaGreatDoorRtp
import Derived.Test.YtipnabbdhmapkaaGreatDoorRtw
namespace Go.Proofs.YtipnabbdhmapkaaGreatDoor
open Go.RowKit

/-- The text that both write, and the error. -/
def txtR (c : Int) (vs : List (Int × Int)) : ByteArray := if vldB c vs = true then txtB (txtL c vs) else ⟨#[]⟩
def txtE (c : Int) (vs : List (Int × Int)) : Int := if vldB c vs = true then 0 else 3
theorem text_any (c : Int) (A : Option Addr) (cap : Nat) (vs : List (Int × Int)) (w : World) (hv : VA w w.heap.size A vs) (hp : Pow w) :
    Calls Tryz.prog 40 #[.agg #[.int .i64 c, .slice A vs.length cap]] w fun e w' => e = .returned (.tuple #[.string (txtR c vs), .int .i64 (txtE c vs)]) ∧ Below w.heap.size w w' := by
  cases h : vldB c vs with
  | false => simp only [txtR, txtE, h]; exact text_bad c A cap vs w hv h
  | true => simp only [txtR, txtE, h, if_true]; exact text_good c A cap vs w hv h hp
theorem rtext_any (c : Int) (A : Option Addr) (cap : Nat) (vs : List (Int × Int)) (w : World) (hv : VA w w.heap.size A vs) :
    Calls Tryz.prog 41 #[.agg #[.int .i64 c, .slice A vs.length cap]] w fun e w' => e = .returned (.tuple #[.string (txtR c vs), .int .i64 (txtE c vs)]) ∧ Below w.heap.size w w' := by
  cases h : vldB c vs with
  | false => simp only [txtR, txtE, h]; exact rtext_bad c A cap vs w.heap.size w hv (Nat.le_refl _) h
  | true => simp only [txtR, txtE, h, if_true]; exact rtext_good c A cap vs w.heap.size w hv (Nat.le_refl _) h
theorem same_in2 {W : World} {b1 b2 : Nat} {c : Int} {A1 A2 : Option Addr} {cap1 cap2 : Nat} {vs : List (Int × Int)} (h1 : LvIn W b1 c A1 cap1 vs) (h2 : LvIn W b2 c A2 cap2 vs) :
    Calls Tryz.prog 28 #[.agg #[.int .i64 c, .slice A1 vs.length cap1], .agg #[.int .i64 c, .slice A2 vs.length cap2]] W fun e w' => e = .returned (.bool true) ∧ Below W.heap.size W w' := by
  have h := same_any c A1 cap1 vs c A2 cap2 vs W.heap.size W h1.va h2.va (Nat.le_refl _)
  rwa [sameB_refl] at h

set_option maxRecDepth 100000 in
set_option maxHeartbeats 8000000 in
theorem levelTexts_any (c1 : Int) (A1 : Option Addr) (cap1 : Nat) (v1 : List (Int × Int)) (w : World) (hv1 : VA w w.heap.size A1 v1) (hp : Pow w) :
    Calls Tryz.prog 8 #[.agg #[.int .i64 c1, .slice A1 v1.length cap1]] w fun e w' => e = .returned (.bool true) ∧ Below w.heap.size w w' := by
  have T0 : Hid (TwoLv w (w.alloc (.cells #[.int .i64 c1, .slice A1 v1.length cap1] 24)) w.heap.size c1 A1 cap1 v1 w.heap.size c1 A1 cap1 v1) := Lib.hid (by
    have hb : Below w.heap.size w (w.alloc (.cells #[.int .i64 c1, .slice A1 v1.length cap1] 24)) := (Below.refl _ _).alloc (Nat.le_refl _) _
    exact ⟨hv1.next0 hb, hv1.next0 hb, hp.below hb, hb, LvAt.new w c1 A1 v1.length cap1, LvAt.new w c1 A1 v1.length cap1⟩)
  clear hv1 hp
  go_enter Tryz.func8, Tryz.ntmps8
  go_wp2_with fail
  refine (few_one (w.heap.size + 1) c1 A1 v1.length cap1 1 _ (by go_simp) (by go_simp) (by simp)).mono ?_
  rintro e w1 ⟨rfl, hb1⟩
  have T1 := Lib.hid ((T0.out.next ((Below.refl _ _).alloc (Nat.le_refl _) _)).next hb1)
  clear hb1 T0
  generalize hdd : decide (v1.length ≤ 12) = dd
  have HD := Lib.hid hdd
  clear hdd
  obtain ⟨x0, x1⟩ := T1.out.at1.cells
  have xl := T1.out.at1.lt
  cases dd with
  | false =>
    go_wp2_with fail
    refine (awake_any w1 T1.out.pow).mono ?_
    rintro e w2 ⟨rfl, hb2⟩
    have T2 := Lib.hid (T1.out.next hb2)
    clear hb2
    go_wp2
    go_ret
    exact ⟨rfl, T2.out.below⟩
  | true =>
    have HSZ := Lib.hid (show v1.length ≤ 12 by simpa using HD.out)
    go_wp2_with fail
    refine (text_any c1 A1 cap1 v1 _ T1.out.va1 T1.out.pow).mono ?_
    rintro e w2 ⟨rfl, hb2⟩
    have T2 := Lib.hid (T1.out.next hb2)
    clear hb2 x0 x1 xl T1
    obtain ⟨x0, x1⟩ := T2.out.at1.cells
    have xl := T2.out.at1.lt
    go_wp2_with fail
    refine (rtext_any c1 A1 cap1 v1 _ T2.out.va1).mono ?_
    rintro e w3 ⟨rfl, hb3⟩
    have T3 := Lib.hid (T2.out.next hb3)
    clear hb3 x0 x1 xl T2
    obtain ⟨x0, x1⟩ := T3.out.at1.cells
    have xl := T3.out.at1.lt
    have hvc : Hid ((txtE c1 v1 = 3) ∨ (txtE c1 v1 = 0 ∧ (txtR c1 v1).size ≤ 65536 ∧ prsE (txtR c1 v1) = 0 ∧ prsL (txtR c1 v1) = (c1, v1))) := Lib.hid (by
      cases h : vldB c1 v1 with
      | false => left; simp [txtE, h]
      | true => right; simp only [txtE, txtR, h, if_true]; exact ⟨trivial, prs_txt h HSZ.out⟩)
    generalize txtR c1 v1 = tx at *
    generalize txtE c1 v1 = te at *
    rcases hvc.out with h3 | ⟨h0, hsz, hE, hL⟩
    · subst h3
      clear hvc
      go_wp2_with fail
      refine (awake_any _ T3.out.pow).mono ?_
      rintro e w4 ⟨rfl, hb4⟩
      have T4 := Lib.hid (T3.out.next hb4)
      clear hb4
      go_wp2
      go_ret
      exact ⟨rfl, T4.out.below⟩
    · subst h0
      clear hvc
      have hpa := parse_any tx w3 (by omega)
      rw [hE, hL] at hpa
      have HPA := Lib.hid hpa
      clear hE hL hpa
      go_wp2_with fail
      refine HPA.out.mono ?_
      rintro e w4 ⟨A2, cap2, rfl, hv4, hb4⟩
      have T4 := Lib.hid (T3.out.next hb4)
      have X4 := Lib.hid hv4
      clear hb4 hv4 T3 x0 x1 xl HPA
      obtain ⟨x0, x1⟩ := T4.out.at1.cells
      have xl := T4.out.at1.lt
      go_wp2_with fail
      refine (same_in2 (⟨T4.out.at1.alloc _, T4.out.va1.box⟩ : LvIn _ w.heap.size c1 A1 cap1 v1) (LvIn.new X4.out)).mono ?_
      rintro e w5 ⟨rfl, hb5⟩
      have T5 := Lib.hid ((T4.out.next ((Below.refl _ _).alloc (Nat.le_refl _) _)).next hb5)
      have X5 := Lib.hid ((LvIn.new X4.out).below hb5)
      clear hb5 T4 X4 x0 x1 xl
      obtain ⟨x0, x1⟩ := T5.out.at1.cells
      obtain ⟨y0, y1⟩ := X5.out.at_.cells
      go_wp2_with fail
      refine (same_in (⟨T5.out.at1, T5.out.va1⟩ : LvIn _ w.heap.size c1 A1 cap1 v1) X5.out).mono ?_
      rintro e w6 ⟨rfl, hb6⟩
      have T6 := Lib.hid (T5.out.next hb6)
      clear hb6 T5 X5 x0 x1 y0 y1
      go_wp2_with fail
      refine (awake_any w6 T6.out.pow).mono ?_
      rintro e w7 ⟨rfl, hb7⟩
      have T7 := Lib.hid (T6.out.next hb7)
      clear hb7
      go_wp2
      go_ret
      exact ⟨rfl, T7.out.below⟩
end Go.Proofs.YtipnabbdhmapkaaGreatDoor
