/- LevelSubsts: the law's walk. -/
import Derived.Test.YtipnabbdhmapkaaGreatDoorLcm
import Derived.Test.YtipnabbdhmapkaaGreatDoorRsu
namespace Go.Proofs.YtipnabbdhmapkaaGreatDoor
open Go.RowKit

theorem LL.box {w : World} {P : Option Addr} {ls : List LvD} (h : LL w w.heap.size P ls) (o : Obj) : LL (w.alloc o) (w.alloc o).heap.size P ls := h.next0 ((Below.refl _ _).alloc (Nat.le_refl _) o)
theorem LL.next {w w' : World} {P : Option Addr} {ls : List LvD} {o : Obj} (h : LL w w.heap.size P ls) (hb : Below (w.alloc o).heap.size (w.alloc o) w') : LL w' w'.heap.size P ls := (h.box o).next0 hb
/-- Some level has more than twelve variables. -/
def bigL (ls : List LvD) : Bool := bigB (ls.map LvD.hd)
theorem bigL_no {ls : List LvD} (h : bigL ls = false) : ∀ l ∈ ls, l.vs.length ≤ 12 := by
  intro l hl
  rcases Nat.lt_or_ge 12 l.vs.length with h1 | h1
  · have h2 : bigL ls = true := List.any_eq_true.2 ⟨l.hd, List.mem_map_of_mem hl, decide_eq_true h1⟩
    rw [h2] at h
    cases h
  · exact h1
theorem few_ls (P : Option Addr) (capp : Nat) (ls : List LvD) (w : World) (hl : LL w w.heap.size P ls) :
    Calls Tryz.prog 13 #[.slice P ls.length capp] w fun e w' => e = .returned (.bool (!bigL ls)) ∧ Below w.heap.size w w' := by
  have h := few_any P capp (ls.map LvD.hd) w.heap.size w hl.1 (Nat.le_refl _)
  rw [List.length_map] at h
  exact h

set_option maxRecDepth 100000 in
set_option maxHeartbeats 8000000 in
theorem levelSubsts_any (c1 : Int) (A1 : Option Addr) (cap1 : Nat) (v1 : List (Int × Int)) (P : Option Addr) (capp : Nat) (ls : List LvD) (w : World) (hv1 : VA w w.heap.size A1 v1) (hl : LL w w.heap.size P ls) (hp : Pow w) :
    Calls Tryz.prog 6 #[.agg #[.int .i64 c1, .slice A1 v1.length cap1], .slice P ls.length capp] w fun e w' => e = .returned (.bool true) ∧ Below w.heap.size w w' := by
  have T0 : Hid (TwoLv w (w.alloc (.cells #[.int .i64 c1, .slice A1 v1.length cap1] 24)) w.heap.size c1 A1 cap1 v1 w.heap.size c1 A1 cap1 v1) := Lib.hid (by
    have hb : Below w.heap.size w (w.alloc (.cells #[.int .i64 c1, .slice A1 v1.length cap1] 24)) := (Below.refl _ _).alloc (Nat.le_refl _) _
    exact ⟨hv1.next0 hb, hv1.next0 hb, hp.below hb, hb, LvAt.new w c1 A1 v1.length cap1, LvAt.new w c1 A1 v1.length cap1⟩)
  have L0 := Lib.hid (hl.box (.cells #[.int .i64 c1, .slice A1 v1.length cap1] 24))
  have hlen := hl.len
  clear hv1 hp hl
  go_enter Tryz.func6, Tryz.ntmps6
  go_wp2_with fail
  refine (few_one (w.heap.size + 1) c1 A1 v1.length cap1 1 _ (by go_simp) (by go_simp) (by simp)).mono ?_
  rintro e w1 ⟨rfl, hb1⟩
  have T1 := Lib.hid ((T0.out.next ((Below.refl _ _).alloc (Nat.le_refl _) _)).next hb1)
  have L1 := Lib.hid (L0.out.next hb1)
  clear hb1 T0 L0
  generalize hdd : decide (v1.length ≤ 12) = dd
  have HD := Lib.hid hdd
  clear hdd
  obtain ⟨x0, x1⟩ := T1.out.at1.cells
  have xl := T1.out.at1.lt
  cases dd with
  | false =>
    go_wp2_with fail
    refine (awake_any w1 T1.out.pow).mono ?_
    rintro e w2 ⟨rfl, hb2⟩
    have T2 := Lib.hid (T1.out.next hb2)
    clear hb2
    go_wp2
    go_ret
    exact ⟨rfl, T2.out.below⟩
  | true =>
    have HSZ := Lib.hid (show v1.length ≤ 12 by simpa using HD.out)
    go_wp2_with fail
    refine (few_ls P capp ls _ L1.out).mono ?_
    rintro e w2 ⟨rfl, hb2⟩
    have T2 := Lib.hid (T1.out.next hb2)
    have L2 := Lib.hid (L1.out.next0 hb2)
    clear hb2 x0 x1 xl T1 L1
    obtain ⟨x0, x1⟩ := T2.out.at1.cells
    have xl := T2.out.at1.lt
    generalize hbg : bigL ls = bg
    have HBG := Lib.hid hbg
    clear hbg
    cases bg with
    | true =>
      go_wp2_with fail
      refine (awake_any _ T2.out.pow).mono ?_
      rintro e w3 ⟨rfl, hb3⟩
      have T3 := Lib.hid (T2.out.next hb3)
      clear hb3
      go_wp2
      go_ret
      exact ⟨rfl, T3.out.below⟩
    | false =>
      have HLS := Lib.hid (bigL_no HBG.out)
      by_cases hl12 : 12 < ls.length
      · have d1 : (12 : Int) < (ls.length : Int) := by omega
        go_wp2_with fail
        refine (awake_any _ T2.out.pow).mono ?_
        rintro e w3 ⟨rfl, hb3⟩
        have T3 := Lib.hid (T2.out.next hb3)
        clear hb3
        go_wp2
        go_ret
        exact ⟨rfl, T3.out.below⟩
      · have d1 : decide ((12 : Int) < (ls.length : Int)) = false := by simp; omega
        have HLB := Lib.hid (show (v1.length ≤ 100) ∧ (∀ l ∈ ls, l.vs.length ≤ 100) from ⟨by have := HSZ.out; omega, fun l hl => by have := HLS.out l hl; omega⟩)
        clear hl12
        go_wp2_with fail
        refine (subst_any c1 A1 cap1 v1 P capp ls _ _ T2.out.va1 L2.out (Nat.le_refl _) HLB.out.1 HLB.out.2).mono ?_
        rintro e w3 ⟨A3, cap3, rfl, hv3, hb3⟩
        have T3 := Lib.hid (T2.out.next hb3)
        have L3 := Lib.hid (L2.out.next0 hb3)
        have X3 := Lib.hid hv3
        clear hb3 hv3 T2 L2 x0 x1 xl
        obtain ⟨x0, x1⟩ := T3.out.at1.cells
        have xl := T3.out.at1.lt
        go_wp2_with fail
        refine (rsubst_any c1 A1 cap1 v1 P capp ls _ _ T3.out.va1.box (L3.out.box _) (Nat.le_refl _) HLB.out.1 HLB.out.2).mono ?_
        rintro e w4 ⟨A4, cap4, rfl, hv4, hb4⟩
        have T4 := Lib.hid ((T3.out.next ((Below.refl _ _).alloc (Nat.le_refl _) _)).next hb4)
        have L4 := Lib.hid (L3.out.next hb4)
        have X4 := Lib.hid ((LvIn.new X3.out).below hb4)
        have Y4 := Lib.hid hv4
        clear hb4 hv4 T3 L3 X3 x0 x1 xl
        generalize (subR c1 v1 ls).1.1 = sc at *
        generalize (subR c1 v1 ls).1.2 = sv at *
        generalize (subR c1 v1 ls).2 = se at *
        obtain ⟨x0, x1⟩ := T4.out.at1.cells
        have xl := T4.out.at1.lt
        go_wp2_with fail
        refine (assign_any c1 A1 cap1 v1 P capp ls _ _ T4.out.va1.box (L4.out.box _) (Nat.le_refl _) HLB.out.1 HLB.out.2).mono ?_
        rintro e w5 ⟨A5, cap5, rfl, hv5, hb5⟩
        have T5 := Lib.hid ((T4.out.next ((Below.refl _ _).alloc (Nat.le_refl _) _)).next hb5)
        have L5 := Lib.hid (L4.out.next hb5)
        have X5 := Lib.hid (X4.out.next hb5)
        have Y5 := Lib.hid ((LvIn.new Y4.out).below hb5)
        have U5 := Lib.hid hv5
        clear hb5 hv5 T4 L4 X4 Y4 x0 x1 xl
        obtain ⟨x0, x1⟩ := T5.out.at1.cells
        have xl := T5.out.at1.lt
        go_wp2_with fail
        refine (rassign_any c1 A1 cap1 v1 P capp ls _ _ T5.out.va1.box (L5.out.box _) (Nat.le_refl _) HLB.out.1 HLB.out.2).mono ?_
        rintro e w6 ⟨A6, cap6, rfl, hv6, hb6⟩
        have T6 := Lib.hid ((T5.out.next ((Below.refl _ _).alloc (Nat.le_refl _) _)).next hb6)
        have X6 := Lib.hid (X5.out.next hb6)
        have Y6 := Lib.hid (Y5.out.next hb6)
        have U6 := Lib.hid ((LvIn.new U5.out).below hb6)
        have Z6 := Lib.hid hv6
        clear hb6 hv6 T5 L5 X5 Y5 U5 x0 x1 xl
        generalize (asgR c1 v1 ls).1.1 = ac at *
        generalize (asgR c1 v1 ls).1.2 = av at *
        generalize (asgR c1 v1 ls).2 = ae at *
        obtain ⟨x0, x1⟩ := X6.out.at_.cells
        obtain ⟨y0, y1⟩ := Y6.out.at_.cells
        have xl := X6.out.at_.lt
        have yl := Y6.out.at_.lt
        go_wp2_with fail
        refine (same_in (X6.out.below ((Below.refl _ _).alloc (Nat.le_refl _) _)) (Y6.out.below ((Below.refl _ _).alloc (Nat.le_refl _) _))).mono ?_
        rintro e w7 ⟨rfl, hb7⟩
        have T7 := Lib.hid ((T6.out.next ((Below.refl _ _).alloc (Nat.le_refl _) _)).next hb7)
        have U7 := Lib.hid (U6.out.next hb7)
        have V7 := Lib.hid ((LvIn.new Z6.out).below hb7)
        clear hb7 T6 U6 Z6 X6 Y6 x0 x1 y0 y1 xl yl
        obtain ⟨x0, x1⟩ := U7.out.at_.cells
        obtain ⟨y0, y1⟩ := V7.out.at_.cells
        go_wp2_with fail
        refine (same_in U7.out V7.out).mono ?_
        rintro e w8 ⟨rfl, hb8⟩
        have T8 := Lib.hid (T7.out.next hb8)
        clear hb8 T7 U7 V7 x0 x1 y0 y1
        go_wp2_with fail
        refine (awake_any w8 T8.out.pow).mono ?_
        rintro e w9 ⟨rfl, hb9⟩
        have T9 := Lib.hid (T8.out.next hb9)
        clear hb9
        go_wp2
        go_ret
        exact ⟨rfl, T9.out.below⟩
end Go.Proofs.YtipnabbdhmapkaaGreatDoor
