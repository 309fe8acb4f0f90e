/- What the chapter's examples come to. -/
import Derived.Test.YtipnabbdhmapkaaGreatDoorTxu
import Derived.Test.YtipnabbdhmapkaaGreatDoorPrs
import Derived.Test.YtipnabbdhmapkaaGreatDoorMax
import Derived.Test.YtipnabbdhmapkaaGreatDoorPlus
import Derived.Test.YtipnabbdhmapkaaGreatDoorLeq
import Derived.Test.YtipnabbdhmapkaaGreatDoorTxw
import Derived.Deep.RegionWith
namespace Go.Proofs.YtipnabbdhmapkaaGreatDoor
open Go.RowKit

/-! What the chapter's examples come to. -/

theorem ex_var : varV 0 1 = [(0, 1)] ∧ varE 0 1 = 0 := by decide
theorem ex_of : ofC 2 = 2 ∧ ofE 2 = 0 := by decide
theorem ex_max : maxC 0 [(0, 1)] 2 [] = 2 ∧ maxV 0 [(0, 1)] 2 [] = [(0, 1)] ∧ maxE 0 [(0, 1)] 2 [] = 0 := by
  have h : maxOk 0 [(0, 1)] 2 [] = true := by decide
  have h2 : canonC 2 [(0, 1)] = 2 := by decide
  simp [maxC, maxV, maxE, h, mg_nil_right, h2]
theorem ex_plus : plusC 2 [(0, 1)] 1 = 3 ∧ plusV 2 [(0, 1)] 1 = [(0, 2)] ∧ plusE 2 [(0, 1)] 1 = 0 := by decide
theorem ex_leq1 : leqB 0 [(0, 1)] 2 [(0, 1)] = true := by decide
theorem ex_leq2 : leqB 2 [(0, 1)] 0 [(0, 1)] = false := by decide
theorem ex_text1 : txtB (txtL 3 [(0, 2)]) = ⟨#[109, 97, 120, 40, 51, 44, 32, 117, 48, 32, 43, 32, 50, 41]⟩ := by kernel_rfl
theorem ex_text2 : txtB (txtL 2 [(1, 1)]) = ⟨#[109, 97, 120, 40, 50, 44, 32, 117, 49, 32, 43, 32, 49, 41]⟩ := by kernel_rfl
theorem ex_text3 : txtB (txtL 2 [(-1, 1), (1, 0)]) = ⟨#[109, 97, 120, 40, 50, 44, 32, 117, 49, 44, 32, 63, 48, 32, 43, 32, 49, 41]⟩ := by kernel_rfl
theorem ex_parse : prsL ⟨#[32, 109, 97, 120, 40, 32, 117, 49, 32, 44, 32, 50, 44, 32, 117, 49, 43, 49, 41]⟩ = (2, [(1, 1)]) := by kernel_rfl
theorem ex_parseE : prsE ⟨#[32, 109, 97, 120, 40, 32, 117, 49, 32, 44, 32, 50, 44, 32, 117, 49, 43, 49, 41]⟩ = 0 := by kernel_rfl

/-! awake: the chapter's examples. -/

theorem aw_var (w : World) : Calls Tryz.prog 17 #[.int .i64 0, .int .i64 1] w (GivesLv 0 [(0, 1)] 0 w) := by
  have h := var_any 0 1 w
  rwa [ex_var.1, ex_var.2] at h
theorem aw_of (w : World) : Calls Tryz.prog 15 #[.int .i64 2] w (GivesLv 2 [] 0 w) := by
  have h := of_any 2 w
  rwa [ex_of.1, ex_of.2] at h
theorem aw_max (A1 A2 : Option Addr) (cap1 cap2 : Nat) (w : World) (h1 : VA w w.heap.size A1 [(0, 1)]) : Calls Tryz.prog 24 #[.agg #[.int .i64 0, .slice A1 1 cap1], .agg #[.int .i64 2, .slice A2 0 cap2]] w (GivesLv 2 [(0, 1)] 0 w) := by
  have h := max_any 0 A1 cap1 [(0, 1)] 2 A2 cap2 [] w.heap.size w h1 VA.nil (Nat.le_refl _) (by simp)
  rwa [ex_max.1, ex_max.2.1, ex_max.2.2] at h
theorem aw_plus (A : Option Addr) (cap : Nat) (w : World) (h1 : VA w w.heap.size A [(0, 1)]) : Calls Tryz.prog 22 #[.agg #[.int .i64 2, .slice A 1 cap], .int .i64 1] w (GivesLv 3 [(0, 2)] 0 w) := by
  have h := plus_any 2 A cap [(0, 1)] 1 w.heap.size w h1 (Nat.le_refl _)
  rwa [ex_plus.1, ex_plus.2.1, ex_plus.2.2] at h
theorem aw_text1 (A : Option Addr) (cap : Nat) (w : World) (h1 : VA w w.heap.size A [(0, 2)]) (hp : Pow w) : Calls Tryz.prog 40 #[.agg #[.int .i64 3, .slice A 1 cap]] w fun e w' => e = .returned (.tuple #[.string ⟨#[109, 97, 120, 40, 51, 44, 32, 117, 48, 32, 43, 32, 50, 41]⟩, .int .i64 0]) ∧ Below w.heap.size w w' := by
  have h := text_good 3 A cap [(0, 2)] w h1 (by decide) hp
  rwa [ex_text1] at h
theorem aw_text2 (A : Option Addr) (cap : Nat) (w : World) (h1 : VA w w.heap.size A [(1, 1)]) (hp : Pow w) : Calls Tryz.prog 40 #[.agg #[.int .i64 2, .slice A 1 cap]] w fun e w' => e = .returned (.tuple #[.string ⟨#[109, 97, 120, 40, 50, 44, 32, 117, 49, 32, 43, 32, 49, 41]⟩, .int .i64 0]) ∧ Below w.heap.size w w' := by
  have h := text_good 2 A cap [(1, 1)] w h1 (by decide) hp
  rwa [ex_text2] at h
theorem aw_text3 (A : Option Addr) (cap : Nat) (w : World) (h1 : VA w w.heap.size A [(-1, 1), (1, 0)]) (hp : Pow w) : Calls Tryz.prog 40 #[.agg #[.int .i64 2, .slice A 2 cap]] w fun e w' => e = .returned (.tuple #[.string ⟨#[109, 97, 120, 40, 50, 44, 32, 117, 49, 44, 32, 63, 48, 32, 43, 32, 49, 41]⟩, .int .i64 0]) ∧ Below w.heap.size w w' := by
  have h := text_good 2 A cap [(-1, 1), (1, 0)] w h1 (by decide) hp
  rwa [ex_text3] at h
theorem aw_parse (w : World) : Calls Tryz.prog 42 #[.string ⟨#[32, 109, 97, 120, 40, 32, 117, 49, 32, 44, 32, 50, 44, 32, 117, 49, 43, 49, 41]⟩] w (GivesLv 2 [(1, 1)] 0 w) := by
  have h := parse_any ⟨#[32, 109, 97, 120, 40, 32, 117, 49, 32, 44, 32, 50, 44, 32, 117, 49, 43, 49, 41]⟩ w (by decide)
  rwa [ex_parse, ex_parseE] at h

theorem aw_leq1 (A1 A2 : Option Addr) (cap1 cap2 : Nat) (w : World) (h1 : VA w w.heap.size A1 [(0, 1)]) (h2 : VA w w.heap.size A2 [(0, 1)]) : Calls Tryz.prog 26 #[.agg #[.int .i64 0, .slice A1 1 cap1], .agg #[.int .i64 2, .slice A2 1 cap2]] w fun e w' => e = .returned (.bool true) ∧ Below w.heap.size w w' := by
  have h := leq_good 0 A1 cap1 [(0, 1)] 2 A2 cap2 [(0, 1)] w.heap.size w h1 h2 (Nat.le_refl _) (by decide) (by decide)
  rwa [show (decide ((0 : Int) ≤ leastI 2 [(0, 1)]) && [((0 : Int), (1 : Int))].all (coverB [(0, 1)])) = true by decide] at h
theorem aw_leq2 (A1 A2 : Option Addr) (cap1 cap2 : Nat) (w : World) (h1 : VA w w.heap.size A1 [(0, 1)]) (h2 : VA w w.heap.size A2 [(0, 1)]) : Calls Tryz.prog 26 #[.agg #[.int .i64 2, .slice A1 1 cap1], .agg #[.int .i64 0, .slice A2 1 cap2]] w fun e w' => e = .returned (.bool false) ∧ Below w.heap.size w w' := by
  have h := leq_good 2 A1 cap1 [(0, 1)] 0 A2 cap2 [(0, 1)] w.heap.size w h1 h2 (Nat.le_refl _) (by decide) (by decide)
  rwa [show (decide ((2 : Int) ≤ leastI 0 [(0, 1)]) && [((0 : Int), (1 : Int))].all (coverB [(0, 1)])) = false by decide] at h

/-- Block b is a variable that holds a level. -/
def LvAt (w : World) (b : Nat) (c : Int) (A : Option Addr) (n cap : Nat) : Prop := w.heap[b]? = some (.cells #[.int .i64 c, .slice A n cap] 24 (0, 0))
theorem LvAt.new (w : World) (c : Int) (A : Option Addr) (n cap : Nat) : LvAt (w.alloc (.cells #[.int .i64 c, .slice A n cap] 24)) w.heap.size c A n cap := by
  show (w.heap.push _)[w.heap.size]? = _
  simp
section
variable {w w' : World} {b : Nat} {c : Int} {A : Option Addr} {n cap : Nat}
theorem LvAt.lt (h : LvAt w b c A n cap) : b < w.heap.size := (Array.getElem?_eq_some_iff.1 h).1
theorem LvAt.below (h : LvAt w b c A n cap) (hb : Below w.heap.size w w') : LvAt w' b c A n cap := (hb.block b h.lt).trans h
theorem LvAt.alloc (h : LvAt w b c A n cap) (o : Obj) : LvAt (w.alloc o) b c A n cap := (Below.heap_alloc _ _ _ h.lt).trans h
theorem LvAt.next (h : LvAt w b c A n cap) {o : Obj} (hb : Below (w.alloc o).heap.size (w.alloc o) w') : LvAt w' b c A n cap := (h.alloc o).below hb
theorem LvAt.cells (h : LvAt w b c A n cap) : w.cell? ⟨b, 0, none⟩ = some (.int .i64 c) ∧ w.cell? ⟨b, 1, none⟩ = some (.slice A n cap) := ⟨by simp [World.cell?, show w.heap[b]? = _ from h], by simp [World.cell?, show w.heap[b]? = _ from h]⟩
end
theorem VA.next {w w' : World} {o : Obj} {A : Option Addr} {vs : List (Int × Int)} (h : VA w w.heap.size A vs) (hb : Below (w.alloc o).heap.size (w.alloc o) w') : VA w' w'.heap.size A vs :=
  ((h.alloc (Nat.le_refl _) o).below hb (by simp)).more (by have := hb.size; simp at this; omega)
theorem VA.next0 {w w' : World} {A : Option Addr} {vs : List (Int × Int)} (h : VA w w.heap.size A vs) (hb : Below w.heap.size w w') : VA w' w'.heap.size A vs := (h.below hb (Nat.le_refl _)).more hb.size
theorem VA.box {w : World} {o : Obj} {A : Option Addr} {vs : List (Int × Int)} (h : VA w w.heap.size A vs) : VA (w.alloc o) (w.alloc o).heap.size A vs := (h.alloc (Nat.le_refl _) o).more (by simp)
theorem below_next {a w w' : World} {o : Obj} (h : Below a.heap.size a w) (hb : Below (w.alloc o).heap.size (w.alloc o) w') : Below a.heap.size a w' := (h.alloc h.size o).trans (hb.mono (by have := h.size; simp; omega))
theorem Pow.next {w w' : World} {o : Obj} (h : Pow w) (hb : Below (w.alloc o).heap.size (w.alloc o) w') : Pow w' := h.below (below_next (Below.refl _ _) hb)

set_option maxRecDepth 100000 in
set_option maxHeartbeats 4000000 in
theorem awake_any (w : World) (hp : Pow w) : Calls Tryz.prog 14 #[] w fun e w' => e = .returned (.bool true) ∧ Below w.heap.size w w' := by
  go_enter Tryz.func14, Tryz.ntmps14
  go_wp2_with fail
  refine (aw_var w).mono ?_
  rintro e w1 ⟨A1, cap1, rfl, hv1, hb1⟩
  have B1 := Lib.hid hb1
  have P1 := Lib.hid (hp.below hb1)
  have V1 := Lib.hid hv1
  clear hb1 hv1 hp
  go_wp2_with fail
  refine (aw_of _).mono ?_
  rintro e w2 ⟨A2, cap2, rfl, _, hb2⟩
  have U2 := (LvAt.new w1 0 A1 1 cap1).below hb2
  have ul := U2.lt
  obtain ⟨u0, u1⟩ := U2.cells
  have B2 := Lib.hid (below_next B1.out hb2)
  have P2 := Lib.hid (P1.out.next hb2)
  have V2 := Lib.hid (V1.out.next hb2)
  have HU2 := Lib.hid U2
  clear hb2 U2 B1 P1 V1
  go_wp2_with fail
  refine (aw_max A1 A2 cap1 cap2 _ V2.out.box).mono ?_
  rintro e w3 ⟨A3, cap3, rfl, hv3, hb3⟩
  have U3 := HU2.out.next hb3
  have B3 := Lib.hid (below_next B2.out hb3)
  have P3 := Lib.hid (P2.out.next hb3)
  have V3 := Lib.hid (V2.out.next hb3)
  have M3 := Lib.hid hv3
  clear u0 u1 ul hb3 hv3 B2 P2 V2 HU2
  have HU3 := Lib.hid U3
  clear U3
  go_wp2_with fail
  refine (aw_plus A3 cap3 _ M3.out.box).mono ?_
  rintro e w4 ⟨A4, cap4, rfl, hv4, hb4⟩
  have HU4 := Lib.hid (HU3.out.next hb4)
  have HM4 := Lib.hid ((LvAt.new w3 2 A3 1 cap3).below hb4)
  have B4 := Lib.hid (below_next B3.out hb4)
  have P4 := Lib.hid (P3.out.next hb4)
  have V4 := Lib.hid (V3.out.next hb4)
  have M4 := Lib.hid (M3.out.next hb4)
  have X4 := Lib.hid hv4
  clear hb4 hv4 B3 P3 V3 M3 HU3
  go_wp2_with fail
  refine (aw_text1 A4 cap4 _ X4.out.box (P4.out.below ((Below.refl _ _).alloc (Nat.le_refl _) _))).mono ?_
  rintro e w5 ⟨rfl, hb5⟩
  have HU5 := Lib.hid (HU4.out.next hb5)
  have HM5 := Lib.hid (HM4.out.next hb5)
  have B5 := Lib.hid (below_next B4.out hb5)
  have P5 := Lib.hid (P4.out.next hb5)
  have V5 := Lib.hid (V4.out.next hb5)
  have M5 := Lib.hid (M4.out.next hb5)
  clear hb5 B4 P4 V4 M4 X4 HU4 HM4
  go_wp2_with fail
  refine (aw_parse _).mono ?_
  rintro e w6 ⟨A6, cap6, rfl, hv6, hb6⟩
  have HU6 := Lib.hid (HU5.out.below hb6)
  have HM6 := Lib.hid (HM5.out.below hb6)
  have B6 := Lib.hid (B5.out.trans (hb6.mono B5.out.size))
  have P6 := Lib.hid (P5.out.below hb6)
  have V6 := Lib.hid (V5.out.next0 hb6)
  have M6 := Lib.hid (M5.out.next0 hb6)
  have X6 := Lib.hid hv6
  clear hb6 hv6 B5 P5 V5 M5 HU5 HM5
  go_wp2_with fail
  refine (aw_text2 A6 cap6 _ X6.out.box (P6.out.below ((Below.refl _ _).alloc (Nat.le_refl _) _))).mono ?_
  rintro e w7 ⟨rfl, hb7⟩
  have HU7 := Lib.hid (HU6.out.next hb7)
  have HM7 := Lib.hid (HM6.out.next hb7)
  have B7 := Lib.hid (below_next B6.out hb7)
  have P7 := Lib.hid (P6.out.next hb7)
  have V7 := Lib.hid (V6.out.next hb7)
  have M7 := Lib.hid (M6.out.next hb7)
  clear hb7 B6 P6 V6 M6 X6 HU6 HM6
  go_wp2_with fail
  have hva : VA (w7.alloc (.cells #[.int .i64 (-1), .int .i64 1, .int .i64 1, .int .i64 0] 69)) (w7.alloc (.cells #[.int .i64 (-1), .int .i64 1, .int .i64 1, .int .i64 0] 69)).heap.size (some ⟨w7.heap.size, 0, none⟩) [(-1, 1), (1, 0)] :=
    ⟨by simp, fun _ => ⟨w7.heap.size, 0, rfl, by simp, fun j x y hj => by
      rcases j with _ | _ | j
      · simp at hj; obtain ⟨rfl, rfl⟩ := hj; exact ⟨by go_simp, by go_simp⟩
      · simp at hj; obtain ⟨rfl, rfl⟩ := hj; exact ⟨by go_simp, by go_simp⟩
      · simp at hj⟩⟩
  refine (aw_text3 _ 2 _ hva (P7.out.below ((Below.refl _ _).alloc (Nat.le_refl _) _))).mono ?_
  clear hva
  rintro e w8 ⟨rfl, hb8⟩
  have U8 := HU7.out.next hb8
  have M8 := HM7.out.next hb8
  have B8 := Lib.hid (below_next B7.out hb8)
  have V8 := V7.out.next hb8
  have N8 := M7.out.next hb8
  obtain ⟨u0, u1⟩ := U8.cells
  obtain ⟨m0, m1⟩ := M8.cells
  have ul := U8.lt
  have ml := M8.lt
  have W8 := Lib.hid (And.intro U8 (And.intro M8 (And.intro V8 N8)))
  clear hb8 U8 M8 V8 N8 B7 P7 V7 M7 HU7 HM7
  go_wp2_with fail
  refine (aw_leq1 A1 A3 cap1 cap3 w8 W8.out.2.2.1 W8.out.2.2.2).mono ?_
  rintro e w9 ⟨rfl, hb9⟩
  obtain ⟨p0, p1⟩ := (W8.out.1.below hb9).cells
  obtain ⟨q0, q1⟩ := (W8.out.2.1.below hb9).cells
  have B9 := Lib.hid (B8.out.trans (hb9.mono B8.out.size))
  have V9 := Lib.hid (W8.out.2.2.1.next0 hb9)
  have M9 := Lib.hid (W8.out.2.2.2.next0 hb9)
  clear hb9 B8 W8 u0 u1 m0 m1 ul ml
  go_wp2_with fail
  refine (aw_leq2 A3 A1 cap3 cap1 w9 M9.out V9.out).mono ?_
  rintro e w10 ⟨rfl, hb10⟩
  have B10 := Lib.hid (B9.out.trans (hb10.mono B9.out.size))
  clear hb10
  go_wp2
  go_ret
  exact ⟨rfl, B10.out⟩
end Go.Proofs.YtipnabbdhmapkaaGreatDoor
