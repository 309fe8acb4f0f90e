/- LevelValues: the law's walk. -/
import Derived.Test.YtipnabbdhmapkaaGreatDoorLcm
import Derived.Test.YtipnabbdhmapkaaGreatDoorSvl
import Derived.Test.YtipnabbdhmapkaaGreatDoorVlu
namespace Go.Proofs.YtipnabbdhmapkaaGreatDoor
open Go.RowKit

theorem LL.three {w : World} {b : Nat} {l0 l1 l2 : LvD} (h0 : w.cell? ⟨b, 0, none⟩ = some (.int .i64 l0.c)) (h1 : w.cell? ⟨b, 1, none⟩ = some (.slice l0.A l0.vs.length l0.cap)) (h2 : w.cell? ⟨b, 2, none⟩ = some (.int .i64 l1.c)) (h3 : w.cell? ⟨b, 3, none⟩ = some (.slice l1.A l1.vs.length l1.cap))
    (h4 : w.cell? ⟨b, 4, none⟩ = some (.int .i64 l2.c)) (h5 : w.cell? ⟨b, 5, none⟩ = some (.slice l2.A l2.vs.length l2.cap)) (hb : b < w.heap.size) (g0 : VA w w.heap.size l0.A l0.vs) (g1 : VA w w.heap.size l1.A l1.vs) (g2 : VA w w.heap.size l2.A l2.vs) : LL w w.heap.size (some ⟨b, 0, none⟩) [l0, l1, l2] := by
  refine ⟨⟨by simp, fun _ => ⟨b, 0, rfl, hb, fun j c a n k hj => ?_⟩⟩, fun l hl => ?_⟩
  · rcases j with _ | _ | _ | j
    · simp [LvD.hd] at hj; obtain ⟨rfl, rfl, rfl, rfl⟩ := hj; exact ⟨by simpa using h0, by simpa using h1⟩
    · simp [LvD.hd] at hj; obtain ⟨rfl, rfl, rfl, rfl⟩ := hj; exact ⟨by simpa using h2, by simpa using h3⟩
    · simp [LvD.hd] at hj; obtain ⟨rfl, rfl, rfl, rfl⟩ := hj; exact ⟨by simpa using h4, by simpa using h5⟩
    · simp at hj
  · simp only [List.mem_cons, List.not_mem_nil, or_false] at hl
    rcases hl with rfl | rfl | rfl
    · exact g0
    · exact g1
    · exact g2
/-- What holds behind a call: the two levels, the number, the values of the parameters. -/
structure VS (w0 w : World) (c1 : Int) (A1 : Option Addr) (cap1 : Nat) (v1 : List (Int × Int)) (c2 : Int) (A2 : Option Addr) (cap2 : Nat) (v2 : List (Int × Int)) (p0 p1 p2 xn : Int) : Prop where
  two : TwoLv w0 w w0.heap.size c1 A1 cap1 v1 (w0.heap.size + 1) c2 A2 cap2 v2
  x3 : w.cell? ⟨w0.heap.size + 1 + 1, 3, none⟩ = some (.int .u8 xn)
  lt : w0.heap.size + 1 + 1 < w.heap.size
  ia : IA w w.heap.size (some ⟨w0.heap.size + 1 + 1 + 1, 0, none⟩) [p0, p1, p2]
/-- The state with the sum and the maximum. -/
structure VM (w0 w : World) (c1 : Int) (A1 : Option Addr) (cap1 : Nat) (v1 : List (Int × Int)) (c2 : Int) (A2 : Option Addr) (cap2 : Nat) (v2 : List (Int × Int)) (p0 p1 p2 xn : Int) (pb : Nat) (pc : Int) (A3 : Option Addr) (cap3 : Nat) (pv : List (Int × Int)) (mb : Nat) (mc : Int) (A4 : Option Addr) (cap4 : Nat) (mv : List (Int × Int)) : Prop where
  v : VS w0 w c1 A1 cap1 v1 c2 A2 cap2 v2 p0 p1 p2 xn
  pl : LvIn w pb pc A3 cap3 pv
  mx : LvIn w mb mc A4 cap4 mv
section
variable {w0 w w' : World} {c1 c2 : Int} {A1 A2 : Option Addr} {cap1 cap2 : Nat} {v1 v2 : List (Int × Int)} {p0 p1 p2 xn : Int}
theorem VS.next (h : VS w0 w c1 A1 cap1 v1 c2 A2 cap2 v2 p0 p1 p2 xn) (hb : Below w.heap.size w w') : VS w0 w' c1 A1 cap1 v1 c2 A2 cap2 v2 p0 p1 p2 xn :=
  ⟨h.two.next hb, (hb.cell (p := ⟨w0.heap.size + 1 + 1, 3, none⟩) h.lt).trans h.x3, Nat.lt_of_lt_of_le h.lt hb.size, h.ia.next0 hb⟩
theorem VS.drew (h : VS w0 w c1 A1 cap1 v1 c2 A2 cap2 v2 p0 p1 p2 xn) : VS w0 w.drew c1 A1 cap1 v1 c2 A2 cap2 v2 p0 p1 p2 xn := h.next ⟨rfl, rfl, rfl, Nat.le_refl _, fun _ _ => rfl⟩
theorem VS.box (h : VS w0 w c1 A1 cap1 v1 c2 A2 cap2 v2 p0 p1 p2 xn) (o : Obj) : VS w0 (w.alloc o) c1 A1 cap1 v1 c2 A2 cap2 v2 p0 p1 p2 xn := h.next ((Below.refl _ _).alloc (Nat.le_refl _) o)
theorem VM.next {pb mb : Nat} {pc mc : Int} {A3 A4 : Option Addr} {cap3 cap4 : Nat} {pv mv : List (Int × Int)} (h : VM w0 w c1 A1 cap1 v1 c2 A2 cap2 v2 p0 p1 p2 xn pb pc A3 cap3 pv mb mc A4 cap4 mv) (hb : Below w.heap.size w w') : VM w0 w' c1 A1 cap1 v1 c2 A2 cap2 v2 p0 p1 p2 xn pb pc A3 cap3 pv mb mc A4 cap4 mv :=
  ⟨h.v.next hb, h.pl.below hb, h.mx.below hb⟩
theorem VM.drew {pb mb : Nat} {pc mc : Int} {A3 A4 : Option Addr} {cap3 cap4 : Nat} {pv mv : List (Int × Int)} (h : VM w0 w c1 A1 cap1 v1 c2 A2 cap2 v2 p0 p1 p2 xn pb pc A3 cap3 pv mb mc A4 cap4 mv) : VM w0 w.drew c1 A1 cap1 v1 c2 A2 cap2 v2 p0 p1 p2 xn pb pc A3 cap3 pv mb mc A4 cap4 mv := h.next ⟨rfl, rfl, rfl, Nat.le_refl _, fun _ _ => rfl⟩
end

set_option maxRecDepth 100000 in
set_option maxHeartbeats 8000000 in
theorem levelValues_any (c1 : Int) (A1 : Option Addr) (cap1 : Nat) (v1 : List (Int × Int)) (c2 : Int) (A2 : Option Addr) (cap2 : Nat) (v2 : List (Int × Int)) (p0 p1 p2 xn : Int) (w : World) (hv1 : VA w w.heap.size A1 v1) (hv2 : VA w w.heap.size A2 v2) (hp : Pow w)
    (g0 : 0 ≤ p0 ∧ p0 ≤ 255) (g1 : 0 ≤ p1 ∧ p1 ≤ 255) (g2 : 0 ≤ p2 ∧ p2 ≤ 255) (g3 : 0 ≤ xn ∧ xn ≤ 255) :
    Calls Tryz.prog 10 #[.agg #[.int .i64 c1, .slice A1 v1.length cap1], .agg #[.int .i64 c2, .slice A2 v2.length cap2], .agg #[.int .u8 p0, .int .u8 p1, .int .u8 p2, .int .u8 xn]] w fun e w' => e = .returned (.bool true) ∧ Below w.heap.size w w' := by
  have HP := Lib.hid (And.intro hv1 (And.intro hv2 hp))
  have HG := Lib.hid (And.intro g0 (And.intro g1 g2))
  have hw0 : IntKind.i64.wrap p0 = p0 := by rw [IntKind.wrap_i64]; omega
  have hw1 : IntKind.i64.wrap p1 = p1 := by rw [IntKind.wrap_i64]; omega
  have hw2 : IntKind.i64.wrap p2 = p2 := by rw [IntKind.wrap_i64]; omega
  clear hv1 hv2 hp g0 g1 g2
  go_enter Tryz.func10, Tryz.ntmps10
  go_wp2_with fail
  have V0 : Hid (VS w (((((w.alloc (.cells #[.int .i64 c1, .slice A1 v1.length cap1] 24)).alloc (.cells #[.int .i64 c2, .slice A2 v2.length cap2] 24)).alloc (.cells #[.int .u8 p0, .int .u8 p1, .int .u8 p2, .int .u8 xn] 63)).alloc (.cells #[.int .i64 p0, .int .i64 p1, .int .i64 p2] 3)).alloc (.cells #[.int .i64 c1, .slice A1 v1.length cap1, .int .i64 c2, .slice A2 v2.length cap2] 24)) c1 A1 cap1 v1 c2 A2 cap2 v2 p0 p1 p2 xn) := Lib.hid (by
    have hb : Below w.heap.size w (((((w.alloc (.cells #[.int .i64 c1, .slice A1 v1.length cap1] 24)).alloc (.cells #[.int .i64 c2, .slice A2 v2.length cap2] 24)).alloc (.cells #[.int .u8 p0, .int .u8 p1, .int .u8 p2, .int .u8 xn] 63)).alloc (.cells #[.int .i64 p0, .int .i64 p1, .int .i64 p2] 3)).alloc (.cells #[.int .i64 c1, .slice A1 v1.length cap1, .int .i64 c2, .slice A2 v2.length cap2] 24)) := (((((Below.refl _ _).alloc (Nat.le_refl _) _).alloc (by simp) _).alloc (by simp; omega) _).alloc (by simp; omega) _).alloc (by simp; omega) _
    have e2 : LvAt (((((w.alloc (.cells #[.int .i64 c1, .slice A1 v1.length cap1] 24)).alloc (.cells #[.int .i64 c2, .slice A2 v2.length cap2] 24)).alloc (.cells #[.int .u8 p0, .int .u8 p1, .int .u8 p2, .int .u8 xn] 63)).alloc (.cells #[.int .i64 p0, .int .i64 p1, .int .i64 p2] 3)).alloc (.cells #[.int .i64 c1, .slice A1 v1.length cap1, .int .i64 c2, .slice A2 v2.length cap2] 24)) (w.heap.size + 1) c2 A2 v2.length cap2 := by
      have := LvAt.new (w.alloc (.cells #[.int .i64 c1, .slice A1 v1.length cap1] 24)) c2 A2 v2.length cap2
      have h2 := ((this.alloc (.cells #[.int .u8 p0, .int .u8 p1, .int .u8 p2, .int .u8 xn] 63)).alloc (.cells #[.int .i64 p0, .int .i64 p1, .int .i64 p2] 3)).alloc (.cells #[.int .i64 c1, .slice A1 v1.length cap1, .int .i64 c2, .slice A2 v2.length cap2] 24)
      simpa using h2
    exact ⟨⟨HP.out.1.next0 hb, HP.out.2.1.next0 hb, HP.out.2.2.below hb, hb, (((((LvAt.new w c1 A1 v1.length cap1).alloc _).alloc _).alloc _).alloc _), e2⟩, by go_simp, by simp, IA.three (by go_simp) (by go_simp) (by go_simp) (by simp)⟩)
  refine (few_two (w.heap.size + 1 + 1 + 1 + 1) c1 A1 v1.length cap1 c2 A2 v2.length cap2 2 _ (by go_simp) (by go_simp) (by go_simp) (by go_simp) (by simp)).mono ?_
  rintro e w1 ⟨rfl, hb1⟩
  have V1 := Lib.hid (V0.out.next hb1)
  clear hb1 V0 hw0 hw1 hw2
  generalize hdd : (decide (v1.length ≤ 12) && decide (v2.length ≤ 12)) = dd
  have HD := Lib.hid hdd
  clear hdd
  obtain ⟨x0, x1⟩ := V1.out.two.at1.cells
  obtain ⟨y0, y1⟩ := V1.out.two.at2.cells
  have VAL := Lib.hid (fun (W : World) (c : Int) (A : Option Addr) (cap : Nat) (vs : List (Int × Int)) (hV : VS w W c1 A1 cap1 v1 c2 A2 cap2 v2 p0 p1 p2 xn) (hva : VA W W.heap.size A vs) => value3_any c A cap vs (w.heap.size + 1 + 1 + 1) 3 p0 p1 p2 W hva hV.ia (by have := HG.out.1; omega) (by have := HG.out.2.1; omega) (by have := HG.out.2.2; omega))
  have HPS : Hid (∀ i, 0 ≤ [p0, p1, p2].getD i 0) := Lib.hid (fun i => by
    rcases i with _ | _ | _ | i
    · exact HG.out.1.1
    · exact HG.out.2.1.1
    · exact HG.out.2.2.1
    · simp)
  have HP255 : Hid (∀ i, [p0, p1, p2].getD i 0 ≤ 255) := Lib.hid (fun i => by
    rcases i with _ | _ | _ | i
    · exact HG.out.1.2
    · exact HG.out.2.1.2
    · exact HG.out.2.2.2
    · simp)
  cases dd with
  | false =>
    go_wp2_with fail
    refine (awake_any _ V1.out.two.pow).mono ?_
    rintro e w9 ⟨rfl, hb9⟩
    have VE := Lib.hid (V1.out.next hb9)
    clear hb9
    go_wp2
    go_ret
    exact ⟨rfl, VE.out.two.below⟩
  | true =>
    have HSZ : Hid (v1.length ≤ 12 ∧ v2.length ≤ 12) := Lib.hid (by simpa using HD.out)
    go_wp2_with fail
    refine (VAL.out _ c1 A1 cap1 v1 V1.out V1.out.two.va1).mono ?_
    rintro e w2 ⟨rfl, hb2⟩
    have V2 := Lib.hid (V1.out.next hb2)
    clear hb2 x0 x1 y0 y1 V1
    obtain ⟨x0, x1⟩ := V2.out.two.at1.cells
    obtain ⟨y0, y1⟩ := V2.out.two.at2.cells
    generalize hva : valB [p0, p1, p2] c1 v1 = va at *
    have HVA := Lib.hid hva
    clear hva
    by_cases hn1 : va < 0
    · have d1 : decide (va < 0) = true := by simpa using hn1
      go_wp2_with fail
      refine (awake_any _ V2.out.two.pow).mono ?_
      rintro e w9 ⟨rfl, hb9⟩
      have VE := Lib.hid (V2.out.next hb9)
      clear hb9
      go_wp2
      go_ret
      exact ⟨rfl, VE.out.two.below⟩
    · have d1 : decide (va < 0) = false := by simpa using hn1
      have HN1 := Lib.hid hn1
      clear hn1
      go_wp2_with fail
      refine (VAL.out _ c2 A2 cap2 v2 V2.out V2.out.two.va2).mono ?_
      rintro e w3 ⟨rfl, hb3⟩
      have V3 := Lib.hid (V2.out.next hb3)
      clear hb3 x0 x1 y0 y1 V2
      obtain ⟨x0, x1⟩ := V3.out.two.at1.cells
      obtain ⟨y0, y1⟩ := V3.out.two.at2.cells
      generalize hvb : valB [p0, p1, p2] c2 v2 = vb at *
      have HVB := Lib.hid hvb
      clear hvb
      by_cases hn2 : vb < 0
      · have d2 : decide (vb < 0) = true := by simpa using hn2
        go_wp2_with fail
        refine (awake_any _ V3.out.two.pow).mono ?_
        rintro e w9 ⟨rfl, hb9⟩
        have VE := Lib.hid (V3.out.next hb9)
        clear hb9
        go_wp2
        go_ret
        exact ⟨rfl, VE.out.two.below⟩
      · have d2 : decide (vb < 0) = false := by simpa using hn2
        have G1 : Hid (Gd [p0, p1, p2] c1 v1) := Lib.hid (gd_of (by rw [HVA.out]; have := HN1.out; omega))
        have G2 : Hid (Gd [p0, p1, p2] c2 v2) := Lib.hid (gd_of (by rw [HVB.out]; omega))
        clear hn2
        have z3 := V3.out.x3
        go_wp2_with fail
        have hnn : Hid (0 ≤ xn % 40 ∧ xn % 40 ≤ 39) := Lib.hid (by omega)
        generalize hxn : xn % 40 = nn at *
        have HXN := Lib.hid (And.intro hxn g3)
        clear hxn
        refine (plus_any c1 A1 cap1 v1 nn _ _ V3.out.two.va1 (Nat.le_refl _)).mono ?_
        rintro e w4 ⟨A3, cap3, rfl, hv4, hb4⟩
        have V4 := Lib.hid (V3.out.next hb4)
        have X4 := Lib.hid hv4
        clear hb4 hv4 V3 x0 x1 y0 y1 z3
        have HPE := Lib.hid (plus_err nn G1.out.vld hnn.out.1)
        have HPV := Lib.hid (fun he => plus_val HPS.out G1.out hnn.out.1 (n := nn) he)
        generalize plusC c1 v1 nn = pc at *
        generalize plusV c1 v1 nn = pv at *
        generalize plusE c1 v1 nn = pe at *
        obtain ⟨x0, x1⟩ := V4.out.two.at1.cells
        obtain ⟨y0, y1⟩ := V4.out.two.at2.cells
        have xl := V4.out.two.at1.lt
        have yl := V4.out.two.at2.lt
        go_wp2_with fail
        refine (max_any c1 A1 cap1 v1 c2 A2 cap2 v2 _ _ V4.out.two.va1.box V4.out.two.va2.box (Nat.le_refl _) (by have := HSZ.out; omega)).mono ?_
        rintro e w5 ⟨A4, cap4, rfl, hv5, hb5⟩
        have V5 := Lib.hid ((V4.out.box _).next hb5)
        have X5 := Lib.hid ((LvIn.new X4.out).below hb5)
        have Y5 := Lib.hid hv5
        clear hb5 hv5 V4 X4 x0 x1 y0 y1 xl yl
        obtain ⟨hm1, hm2, hm3⟩ := max_val HPS.out G1.out G2.out
        rw [HVA.out, HVB.out] at hm3
        have GM := Lib.hid (And.intro hm1 hm3)
        clear hm1 hm3
        have HMVL : Hid ((maxV c1 v1 c2 v2).length ≤ v1.length + v2.length) := Lib.hid (by unfold maxV; split <;> simp [mg_length])
        generalize maxC c1 v1 c2 v2 = mc at *
        generalize maxV c1 v1 c2 v2 = mv at *
        generalize maxE c1 v1 c2 v2 = me at *
        subst hm2
        obtain ⟨x0, x1⟩ := V5.out.two.at1.cells
        obtain ⟨y0, y1⟩ := V5.out.two.at2.cells
        have xl := V5.out.two.at1.lt
        have yl := V5.out.two.at2.lt
        go_wp2_with fail
        have HW := Lib.hid (show VM w (w5.alloc (.cells #[.int .i64 mc, .slice A4 mv.length cap4] 24)) c1 A1 cap1 v1 c2 A2 cap2 v2 p0 p1 p2 xn w4.heap.size pc A3 cap3 pv w5.heap.size mc A4 cap4 mv from ⟨V5.out.box _, X5.out.below ((Below.refl _ _).alloc (Nat.le_refl _) _), LvIn.new Y5.out⟩)
        clear V5 X5 Y5 x0 x1 y0 y1 xl yl
        generalize w5.alloc (.cells #[.int .i64 mc, .slice A4 mv.length cap4] 24) = W6 at *
        have hle : va ≤ 355 ∧ vb ≤ 355 ∧ 0 ≤ va ∧ 0 ≤ vb := by
          have h1 := val_le (HP255.out) G1.out
          have h2 := val_le (HP255.out) G2.out
          have h3 := val_ge G1.out
          have h4 := val_ge G2.out
          rw [← G1.out.val, HVA.out] at h1 h3
          rw [← G2.out.val, HVB.out] at h2 h4
          exact ⟨h1, h2, h3, h4⟩
        have HLE := Lib.hid hle
        clear hle d1 d2
        obtain ⟨mm, hmm⟩ : ∃ mm, mm = max va vb := ⟨_, rfl⟩
        have HMM := Lib.hid hmm
        have HM3 : Hid (valB [p0, p1, p2] mc mv = mm) := Lib.hid (by rw [GM.out.2, hmm])
        have hmx : (if va < vb then vb else va) = mm := by rw [hmm]; split <;> omega
        have hmx2 : max va vb = mm := hmm.symm
        clear hmm
        go_cut [79] from 57 to 79 (fun s79 wx => s79 = .bool false ∧ VM w wx c1 A1 cap1 v1 c2 A2 cap2 v2 p0 p1 p2 xn w4.heap.size pc A3 cap3 pv w5.heap.size mc A4 cap4 mv)
        case first =>
          have HB := Lib.hid HW.out.drew
          rcases HPE.out with h0 | h0
          · subst h0
            refine wp_region_held_drew (S := fun w' => w'.cell? ⟨w.heap.size, 0, none⟩ = some (.int .i64 c1) ∧ w'.cell? ⟨w.heap.size, 1, none⟩ = some (.slice A1 v1.length cap1) ∧ w'.cell? ⟨w.heap.size + 1, 0, none⟩ = some (.int .i64 c2) ∧ w'.cell? ⟨w.heap.size + 1, 1, none⟩ = some (.slice A2 v2.length cap2) ∧ w'.cell? ⟨w5.heap.size, 0, none⟩ = some (.int .i64 mc) ∧ w'.cell? ⟨w5.heap.size, 1, none⟩ = some (.slice A4 mv.length cap4)) (by kernel_rfl) (⟨HB.out.v.two.at1.cells.1, HB.out.v.two.at1.cells.2, HB.out.v.two.at2.cells.1, HB.out.v.two.at2.cells.2, HB.out.mx.at_.cells.1, HB.out.mx.at_.cells.2⟩) ?_
            intro hS
            refine wpAnyH_take (i := 0) (oi := { dst := some 57, op := Op.move (Operand.tmp 9), type := 27, pos := "law.go:133", after := #[], guard := none }) (v := .int .i64 0) rfl (by kernel_rfl) (by kernel_rfl) (by kernel_rfl) (fun _ _ _ h => h) (Or.inl ⟨by rfl, ?_⟩) hS ?_
            · intro w9 hSw
              obtain ⟨s0, s1, s2, s3, s4, s5⟩ := hSw
              go_simp
            simp only [Act.put, List.setIfInBounds_toArray, List.set_cons_zero, List.set_cons_succ]
            refine wpAnyH_take (i := 1) (oi := { dst := some 58, op := Op.binOp BinOp.neq 27 (Operand.tmp 57) (Operand.const (Value.int IntKind.i64 0)) 27, type := 4, pos := "law.go:133", after := #[{ on := 0, ground := Ground.data }], guard := none }) (v := .bool false) rfl (by kernel_rfl) (by kernel_rfl) (by kernel_rfl) (fun _ _ _ h => h) (Or.inl ⟨by rfl, ?_⟩) hS ?_
            · intro w9 hSw
              obtain ⟨s0, s1, s2, s3, s4, s5⟩ := hSw
              go_simp
            simp only [Act.put, List.setIfInBounds_toArray, List.set_cons_zero, List.set_cons_succ]
            refine wpAnyH_take (i := 2) (oi := { dst := some 59, op := Op.move (Operand.tmp 58), type := 4, pos := "law.go:133", after := #[{ on := 1, ground := Ground.data }], guard := none }) (v := .bool false) rfl (by kernel_rfl) (by kernel_rfl) (by kernel_rfl) (fun _ _ _ h => h) (Or.inl ⟨by rfl, ?_⟩) hS ?_
            · intro w9 hSw
              obtain ⟨s0, s1, s2, s3, s4, s5⟩ := hSw
              go_simp
            simp only [Act.put, List.setIfInBounds_toArray, List.set_cons_zero, List.set_cons_succ]
            refine wpAnyH_take (i := 3) (oi := { dst := some 60, op := Op.move (Operand.tmp 9), type := 27, pos := "law.go:133", after := #[{ on := 2, ground := Ground.guard }], guard := some (2, true) }) (v := undef) rfl (by kernel_rfl) (by kernel_rfl) (by kernel_rfl) (fun _ _ _ h => h) (Or.inr ⟨by rfl, rfl⟩) hS ?_
            simp only [Act.put, List.setIfInBounds_toArray, List.set_cons_zero, List.set_cons_succ]
            refine wpAnyH_take (i := 4) (oi := { dst := some 61, op := Op.binOp BinOp.neq 27 (Operand.tmp 60) (Operand.const (Value.int IntKind.i64 15)) 27, type := 4, pos := "law.go:133", after := #[{ on := 3, ground := Ground.data }, { on := 2, ground := Ground.guard }], guard := some (2, true) }) (v := undef) rfl (by kernel_rfl) (by kernel_rfl) (by kernel_rfl) (fun _ _ _ h => h) (Or.inr ⟨by rfl, rfl⟩) hS ?_
            simp only [Act.put, List.setIfInBounds_toArray, List.set_cons_zero, List.set_cons_succ]
            refine wpAnyH_take (i := 5) (oi := { dst := some 62, op := Op.pick (Operand.tmp 59) (Operand.tmp 61) (Operand.const (Value.bool false)), type := 4, pos := "law.go:133", after := #[{ on := 2, ground := Ground.data }, { on := 4, ground := Ground.data }], guard := none }) (v := .bool false) rfl (by kernel_rfl) (by kernel_rfl) (by kernel_rfl) (fun _ _ _ h => h) (Or.inl ⟨by rfl, ?_⟩) hS ?_
            · intro w9 hSw
              obtain ⟨s0, s1, s2, s3, s4, s5⟩ := hSw
              go_simp
            simp only [Act.put, List.setIfInBounds_toArray, List.set_cons_zero, List.set_cons_succ]
            refine wpAnyH_take (i := 6) (oi := { dst := some 63, op := Op.move (Operand.tmp 62), type := 4, pos := "law.go:133", after := #[{ on := 5, ground := Ground.data }, { on := 2, ground := Ground.chain }], guard := none }) (v := .bool false) rfl (by kernel_rfl) (by kernel_rfl) (by kernel_rfl) (fun _ _ _ h => h) (Or.inl ⟨by rfl, ?_⟩) hS ?_
            · intro w9 hSw
              obtain ⟨s0, s1, s2, s3, s4, s5⟩ := hSw
              go_simp
            simp only [Act.put, List.setIfInBounds_toArray, List.set_cons_zero, List.set_cons_succ]
            refine wpAnyH_take (i := 7) (oi := { dst := some 64, op := Op.move (Operand.tmp 11), type := 27, pos := "law.go:133", after := #[{ on := 6, ground := Ground.guard }], guard := some (6, false) }) (v := .int .i64 0) rfl (by kernel_rfl) (by kernel_rfl) (by kernel_rfl) (fun _ _ _ h => h) (Or.inl ⟨by rfl, ?_⟩) hS ?_
            · intro w9 hSw
              obtain ⟨s0, s1, s2, s3, s4, s5⟩ := hSw
              go_simp
            simp only [Act.put, List.setIfInBounds_toArray, List.set_cons_zero, List.set_cons_succ]
            refine wpAnyH_take (i := 8) (oi := { dst := some 65, op := Op.binOp BinOp.neq 27 (Operand.tmp 64) (Operand.const (Value.int IntKind.i64 0)) 27, type := 4, pos := "law.go:133", after := #[{ on := 7, ground := Ground.data }, { on := 6, ground := Ground.guard }], guard := some (6, false) }) (v := .bool false) rfl (by kernel_rfl) (by kernel_rfl) (by kernel_rfl) (fun _ _ _ h => h) (Or.inl ⟨by rfl, ?_⟩) hS ?_
            · intro w9 hSw
              obtain ⟨s0, s1, s2, s3, s4, s5⟩ := hSw
              go_simp
            simp only [Act.put, List.setIfInBounds_toArray, List.set_cons_zero, List.set_cons_succ]
            refine wpAnyH_take (i := 9) (oi := { dst := some 66, op := Op.pick (Operand.tmp 63) (Operand.const (Value.bool true)) (Operand.tmp 65), type := 4, pos := "law.go:133", after := #[{ on := 6, ground := Ground.data }, { on := 8, ground := Ground.data }], guard := none }) (v := .bool false) rfl (by kernel_rfl) (by kernel_rfl) (by kernel_rfl) (fun _ _ _ h => h) (Or.inl ⟨by rfl, ?_⟩) hS ?_
            · intro w9 hSw
              obtain ⟨s0, s1, s2, s3, s4, s5⟩ := hSw
              go_simp
            simp only [Act.put, List.setIfInBounds_toArray, List.set_cons_zero, List.set_cons_succ]
            refine wpAnyH_take (i := 10) (oi := { dst := some 67, op := Op.move (Operand.tmp 66), type := 4, pos := "law.go:133", after := #[{ on := 9, ground := Ground.data }, { on := 6, ground := Ground.chain }], guard := none }) (v := .bool false) rfl (by kernel_rfl) (by kernel_rfl) (by kernel_rfl) (fun _ _ _ h => h) (Or.inl ⟨by rfl, ?_⟩) hS ?_
            · intro w9 hSw
              obtain ⟨s0, s1, s2, s3, s4, s5⟩ := hSw
              go_simp
            simp only [Act.put, List.setIfInBounds_toArray, List.set_cons_zero, List.set_cons_succ]
            refine wpAnyH_take (i := 11) (oi := { dst := some 68, op := Op.load 24 (Operand.tmp 10), type := 24, pos := "law.go:133", after := #[{ on := 10, ground := Ground.guard }], guard := some (10, false) }) (v := .agg #[.int .i64 mc, .slice A4 mv.length cap4]) rfl (by kernel_rfl) (by kernel_rfl) (by kernel_rfl) (fun _ _ _ h => h) (Or.inl ⟨by rfl, ?_⟩) hS ?_
            · intro w9 hSw
              obtain ⟨s0, s1, s2, s3, s4, s5⟩ := hSw
              go_simp
            simp only [Act.put, List.setIfInBounds_toArray, List.set_cons_zero, List.set_cons_succ]
            refine wpAnyH_take (i := 12) (oi := { dst := some 69, op := Op.move (Operand.tmp 7), type := 46, pos := "law.go:133", after := #[{ on := 10, ground := Ground.guard }], guard := some (10, false) }) (v := .slice (some ⟨w.heap.size + 1 + 1 + 1, 0, none⟩) 3 3) rfl (by kernel_rfl) (by kernel_rfl) (by kernel_rfl) (fun _ _ _ h => h) (Or.inl ⟨by rfl, ?_⟩) hS ?_
            · intro w9 hSw
              obtain ⟨s0, s1, s2, s3, s4, s5⟩ := hSw
              go_simp
            simp only [Act.put, List.setIfInBounds_toArray, List.set_cons_zero, List.set_cons_succ]
            refine wpAnyH_take (i := 14) (oi := { dst := some 71, op := Op.load 24 (Operand.tmp 3), type := 24, pos := "law.go:133", after := #[{ on := 10, ground := Ground.guard }], guard := some (10, false) }) (v := .agg #[.int .i64 c1, .slice A1 v1.length cap1]) rfl (by kernel_rfl) (by kernel_rfl) (by kernel_rfl) (fun _ _ _ h => h) (Or.inl ⟨by rfl, ?_⟩) hS ?_
            · intro w9 hSw
              obtain ⟨s0, s1, s2, s3, s4, s5⟩ := hSw
              go_simp
            simp only [Act.put, List.setIfInBounds_toArray, List.set_cons_zero, List.set_cons_succ]
            refine wpAnyH_take (i := 15) (oi := { dst := some 72, op := Op.move (Operand.tmp 7), type := 46, pos := "law.go:133", after := #[{ on := 10, ground := Ground.guard }], guard := some (10, false) }) (v := .slice (some ⟨w.heap.size + 1 + 1 + 1, 0, none⟩) 3 3) rfl (by kernel_rfl) (by kernel_rfl) (by kernel_rfl) (fun _ _ _ h => h) (Or.inl ⟨by rfl, ?_⟩) hS ?_
            · intro w9 hSw
              obtain ⟨s0, s1, s2, s3, s4, s5⟩ := hSw
              go_simp
            simp only [Act.put, List.setIfInBounds_toArray, List.set_cons_zero, List.set_cons_succ]
            refine wpAnyH_take (i := 17) (oi := { dst := some 74, op := Op.load 24 (Operand.tmp 4), type := 24, pos := "law.go:133", after := #[{ on := 10, ground := Ground.guard }], guard := some (10, false) }) (v := .agg #[.int .i64 c2, .slice A2 v2.length cap2]) rfl (by kernel_rfl) (by kernel_rfl) (by kernel_rfl) (fun _ _ _ h => h) (Or.inl ⟨by rfl, ?_⟩) hS ?_
            · intro w9 hSw
              obtain ⟨s0, s1, s2, s3, s4, s5⟩ := hSw
              go_simp
            simp only [Act.put, List.setIfInBounds_toArray, List.set_cons_zero, List.set_cons_succ]
            refine wpAnyH_take (i := 18) (oi := { dst := some 75, op := Op.move (Operand.tmp 7), type := 46, pos := "law.go:133", after := #[{ on := 10, ground := Ground.guard }], guard := some (10, false) }) (v := .slice (some ⟨w.heap.size + 1 + 1 + 1, 0, none⟩) 3 3) rfl (by kernel_rfl) (by kernel_rfl) (by kernel_rfl) (fun _ _ _ h => h) (Or.inl ⟨by rfl, ?_⟩) hS ?_
            · intro w9 hSw
              obtain ⟨s0, s1, s2, s3, s4, s5⟩ := hSw
              go_simp
            simp only [Act.put, List.setIfInBounds_toArray, List.set_cons_zero, List.set_cons_succ]
            refine wpAnyH_ready (rs := [13]) (by kernel_rfl) (List.cons_ne_nil _ _) ?_
            refine AllReadyH.cons (o := { dst := some 70, op := Op.call { callee := Callee.value (Operand.func 44), args := #[Operand.tmp 68, Operand.tmp 69], argTypes := #[24, 46] }, type := 3, pos := "law.go:133", after := #[{ on := 11, ground := Ground.data }, { on := 12, ground := Ground.data }, { on := 10, ground := Ground.chain }, { on := 10, ground := Ground.guard }], guard := some (10, false) }) rfl (fun K hK => ?_) AllReadyH.nil
            go_simp
            go_at_call 44
            refine (VAL.out _ mc A4 cap4 mv HB.out.v HB.out.mx.va).mono ?_
            rw [HM3.out]
            rintro e w7 ⟨rfl, hb7⟩
            have HB := Lib.hid (HB.out.next hb7)
            clear hb7
            try go_simp
            refine hK _ _ (⟨HB.out.v.two.at1.cells.1, HB.out.v.two.at1.cells.2, HB.out.v.two.at2.cells.1, HB.out.v.two.at2.cells.2, HB.out.mx.at_.cells.1, HB.out.mx.at_.cells.2⟩) ?_
            clear hS
            intro hS
            clear hK K
            refine wpAnyH_ready (rs := [16]) (by kernel_rfl) (List.cons_ne_nil _ _) ?_
            refine AllReadyH.cons (o := { dst := some 73, op := Op.call { callee := Callee.value (Operand.func 44), args := #[Operand.tmp 71, Operand.tmp 72], argTypes := #[24, 46] }, type := 3, pos := "law.go:133", after := #[{ on := 14, ground := Ground.data }, { on := 15, ground := Ground.data }, { on := 13, ground := Ground.chain }, { on := 10, ground := Ground.guard }], guard := some (10, false) }) rfl (fun K hK => ?_) AllReadyH.nil
            go_simp
            go_at_call 44
            refine (VAL.out _ c1 A1 cap1 v1 HB.out.v HB.out.v.two.va1).mono ?_
            rw [HVA.out]
            rintro e w7 ⟨rfl, hb7⟩
            have HB := Lib.hid (HB.out.next hb7)
            clear hb7
            try go_simp
            refine hK _ _ (⟨HB.out.v.two.at1.cells.1, HB.out.v.two.at1.cells.2, HB.out.v.two.at2.cells.1, HB.out.v.two.at2.cells.2, HB.out.mx.at_.cells.1, HB.out.mx.at_.cells.2⟩) ?_
            clear hS
            intro hS
            clear hK K
            refine wpAnyH_ready (rs := [19]) (by kernel_rfl) (List.cons_ne_nil _ _) ?_
            refine AllReadyH.cons (o := { dst := some 76, op := Op.call { callee := Callee.value (Operand.func 44), args := #[Operand.tmp 74, Operand.tmp 75], argTypes := #[24, 46] }, type := 3, pos := "law.go:133", after := #[{ on := 17, ground := Ground.data }, { on := 18, ground := Ground.data }, { on := 16, ground := Ground.chain }, { on := 10, ground := Ground.guard }], guard := some (10, false) }) rfl (fun K hK => ?_) AllReadyH.nil
            go_simp
            go_at_call 44
            refine (VAL.out _ c2 A2 cap2 v2 HB.out.v HB.out.v.two.va2).mono ?_
            rw [HVB.out]
            rintro e w7 ⟨rfl, hb7⟩
            have HB := Lib.hid (HB.out.next hb7)
            clear hb7
            try go_simp
            refine hK _ _ (⟨HB.out.v.two.at1.cells.1, HB.out.v.two.at1.cells.2, HB.out.v.two.at2.cells.1, HB.out.v.two.at2.cells.2, HB.out.mx.at_.cells.1, HB.out.mx.at_.cells.2⟩) ?_
            clear hS
            intro hS
            clear hK K
            refine wpAnyH_take (i := 20) (oi := { dst := some 77, op := Op.call { callee := Callee.builtin Builtin.max, args := #[Operand.tmp 73, Operand.tmp 76], argTypes := #[3, 3] }, type := 3, pos := "law.go:133", after := #[{ on := 16, ground := Ground.data }, { on := 19, ground := Ground.data }, { on := 10, ground := Ground.guard }], guard := some (10, false) }) (v := .int .i64 mm) rfl (by kernel_rfl) (by kernel_rfl) (by kernel_rfl) (fun _ _ _ h => h) (Or.inl ⟨by rfl, ?_⟩) hS ?_
            · intro w9 hSw
              obtain ⟨s0, s1, s2, s3, s4, s5⟩ := hSw
              go_simp
            simp only [Act.put, List.setIfInBounds_toArray, List.set_cons_zero, List.set_cons_succ]
            refine wpAnyH_take (i := 21) (oi := { dst := some 78, op := Op.binOp BinOp.neq 3 (Operand.tmp 70) (Operand.tmp 77) 3, type := 4, pos := "law.go:133", after := #[{ on := 13, ground := Ground.data }, { on := 20, ground := Ground.data }, { on := 10, ground := Ground.guard }], guard := some (10, false) }) (v := .bool false) rfl (by kernel_rfl) (by kernel_rfl) (by kernel_rfl) (fun _ _ _ h => h) (Or.inl ⟨by rfl, ?_⟩) hS ?_
            · intro w9 hSw
              obtain ⟨s0, s1, s2, s3, s4, s5⟩ := hSw
              go_simp
            simp only [Act.put, List.setIfInBounds_toArray, List.set_cons_zero, List.set_cons_succ]
            refine wpAnyH_take (i := 22) (oi := { dst := some 79, op := Op.pick (Operand.tmp 67) (Operand.const (Value.bool true)) (Operand.tmp 78), type := 4, pos := "law.go:133", after := #[{ on := 10, ground := Ground.data }, { on := 21, ground := Ground.data }], guard := none }) (v := .bool false) rfl (by kernel_rfl) (by kernel_rfl) (by kernel_rfl) (fun _ _ _ h => h) (Or.inl ⟨by rfl, ?_⟩) hS ?_
            · intro w9 hSw
              obtain ⟨s0, s1, s2, s3, s4, s5⟩ := hSw
              go_simp
            simp only [Act.put, List.setIfInBounds_toArray, List.set_cons_zero, List.set_cons_succ]
            refine wpAnyH_done (by kernel_rfl) ?_ _
            go_wp2
            go_meet
            exact ⟨rfl, HB.out⟩
          · subst h0
            go_wp2_with fail
            go_region_held3 (fun w' => w'.cell? ⟨w.heap.size, 0, none⟩ = some (.int .i64 c1) ∧ w'.cell? ⟨w.heap.size, 1, none⟩ = some (.slice A1 v1.length cap1) ∧ w'.cell? ⟨w.heap.size + 1, 0, none⟩ = some (.int .i64 c2) ∧ w'.cell? ⟨w.heap.size + 1, 1, none⟩ = some (.slice A2 v2.length cap2) ∧ w'.cell? ⟨w5.heap.size, 0, none⟩ = some (.int .i64 mc) ∧ w'.cell? ⟨w5.heap.size, 1, none⟩ = some (.slice A4 mv.length cap4))
              (first | exact ⟨HB.out.v.two.at1.cells.1, HB.out.v.two.at1.cells.2, HB.out.v.two.at2.cells.1, HB.out.v.two.at2.cells.2, HB.out.mx.at_.cells.1, HB.out.mx.at_.cells.2⟩)
              (first
              | (go_at_call_of 44 (Value.slice A4 mv.length cap4); refine (VAL.out _ mc A4 cap4 mv HB.out.v HB.out.mx.va).mono ?_; rw [HM3.out]; rintro e w7 ⟨rfl, hb7⟩; have HB := Lib.hid (HB.out.next hb7); clear hb7)
              | (go_at_call_of 44 (Value.slice A2 v2.length cap2); refine (VAL.out _ c2 A2 cap2 v2 HB.out.v HB.out.v.two.va2).mono ?_; rw [HVB.out]; rintro e w7 ⟨rfl, hb7⟩; have HB := Lib.hid (HB.out.next hb7); clear hb7)
              | (go_at_call_of 44 (Value.slice A1 v1.length cap1); refine (VAL.out _ c1 A1 cap1 v1 HB.out.v HB.out.v.two.va1).mono ?_; rw [HVA.out]; rintro e w7 ⟨rfl, hb7⟩; have HB := Lib.hid (HB.out.next hb7); clear hb7))
            all_goals
              go_wp2
              go_meet
              exact ⟨rfl, HB.out⟩
        case rest =>
          obtain ⟨rfl, HW2⟩ := hcut
          have HX := Lib.hid HW2
          clear HW HW2 hmx hmx2
          go_upto_region 8 with fail
          go_cut [95] from 80 to 95 (fun s95 wx => s95 = .bool false ∧ VM w wx c1 A1 cap1 v1 c2 A2 cap2 v2 p0 p1 p2 xn w4.heap.size pc A3 cap3 pv w5.heap.size mc A4 cap4 mv)
          case first =>
            have HB := Lib.hid HX.out.drew
            rcases HPE.out with h0 | h0
            · have HP3 : Hid (valB [p0, p1, p2] pc pv = va + nn) := Lib.hid (by
                obtain ⟨i1, i2⟩ := HPV.out h0
                rw [i1.val, i2, ← G1.out.val, HVA.out])
              subst h0
              have HSUM : Hid (IntKind.i64.wrap (va + IntKind.i64.wrap (xn.tmod 40)) = va + nn) := Lib.hid (by
                have h1 := HLE.out
                have h2 := hnn.out
                have h3 := HXN.out
                rw [Int.tmod_eq_emod_of_nonneg h3.2.1, h3.1, IntKind.wrap_i64, IntKind.wrap_i64]
                omega)
              go_wp2_with fail
              go_region_held3 (fun w' => w'.cell? ⟨w.heap.size, 0, none⟩ = some (.int .i64 c1) ∧ w'.cell? ⟨w.heap.size, 1, none⟩ = some (.slice A1 v1.length cap1) ∧ w'.cell? ⟨w4.heap.size, 0, none⟩ = some (.int .i64 pc) ∧ w'.cell? ⟨w4.heap.size, 1, none⟩ = some (.slice A3 pv.length cap3) ∧ w'.cell? ⟨w.heap.size + 1 + 1, 3, none⟩ = some (.int .u8 xn))
                (first | exact ⟨HB.out.v.two.at1.cells.1, HB.out.v.two.at1.cells.2, HB.out.pl.at_.cells.1, HB.out.pl.at_.cells.2, HB.out.v.x3⟩)
                (first
                | (go_at_call_of 44 (Value.slice A3 pv.length cap3); refine (VAL.out _ pc A3 cap3 pv HB.out.v HB.out.pl.va).mono ?_; rw [HP3.out]; rintro e w7 ⟨rfl, hb7⟩; have HB := Lib.hid (HB.out.next hb7); clear hb7)
                | (go_at_call_of 44 (Value.slice A1 v1.length cap1); refine (VAL.out _ c1 A1 cap1 v1 HB.out.v HB.out.v.two.va1).mono ?_; rw [HVA.out]; rintro e w7 ⟨rfl, hb7⟩; have HB := Lib.hid (HB.out.next hb7); clear hb7))
              all_goals
                go_wp2
                go_meet
                refine ⟨?_, HB.out⟩
                rw [HSUM.out]
                simp
            · subst h0
              refine wp_region_held_drew (S := fun w' => w'.cell? ⟨w.heap.size, 0, none⟩ = some (.int .i64 c1) ∧ w'.cell? ⟨w.heap.size, 1, none⟩ = some (.slice A1 v1.length cap1) ∧ w'.cell? ⟨w.heap.size + 1, 0, none⟩ = some (.int .i64 c2) ∧ w'.cell? ⟨w.heap.size + 1, 1, none⟩ = some (.slice A2 v2.length cap2) ∧ w'.cell? ⟨w5.heap.size, 0, none⟩ = some (.int .i64 mc) ∧ w'.cell? ⟨w5.heap.size, 1, none⟩ = some (.slice A4 mv.length cap4)) (by kernel_rfl) (⟨HB.out.v.two.at1.cells.1, HB.out.v.two.at1.cells.2, HB.out.v.two.at2.cells.1, HB.out.v.two.at2.cells.2, HB.out.mx.at_.cells.1, HB.out.mx.at_.cells.2⟩) ?_
              intro hS
              refine wpAnyH_take (i := 0) (oi := { dst := some 80, op := Op.move (Operand.tmp 9), type := 27, pos := "law.go:136", after := #[], guard := none }) (v := .int .i64 15) rfl (by kernel_rfl) (by kernel_rfl) (by kernel_rfl) (fun _ _ _ h => h) (Or.inl ⟨by rfl, ?_⟩) hS ?_
              · intro w9 hSw
                obtain ⟨s0, s1, s2, s3, s4, s5⟩ := hSw
                go_simp
              simp only [Act.put, List.setIfInBounds_toArray, List.set_cons_zero, List.set_cons_succ]
              refine wpAnyH_take (i := 1) (oi := { dst := some 81, op := Op.binOp BinOp.eql 27 (Operand.tmp 80) (Operand.const (Value.int IntKind.i64 0)) 27, type := 4, pos := "law.go:136", after := #[{ on := 0, ground := Ground.data }], guard := none }) (v := .bool false) rfl (by kernel_rfl) (by kernel_rfl) (by kernel_rfl) (fun _ _ _ h => h) (Or.inl ⟨by rfl, ?_⟩) hS ?_
              · intro w9 hSw
                obtain ⟨s0, s1, s2, s3, s4, s5⟩ := hSw
                go_simp
              simp only [Act.put, List.setIfInBounds_toArray, List.set_cons_zero, List.set_cons_succ]
              refine wpAnyH_take (i := 2) (oi := { dst := some 82, op := Op.move (Operand.tmp 81), type := 4, pos := "law.go:136", after := #[{ on := 1, ground := Ground.data }], guard := none }) (v := .bool false) rfl (by kernel_rfl) (by kernel_rfl) (by kernel_rfl) (fun _ _ _ h => h) (Or.inl ⟨by rfl, ?_⟩) hS ?_
              · intro w9 hSw
                obtain ⟨s0, s1, s2, s3, s4, s5⟩ := hSw
                go_simp
              simp only [Act.put, List.setIfInBounds_toArray, List.set_cons_zero, List.set_cons_succ]
              refine wpAnyH_take (i := 3) (oi := { dst := some 83, op := Op.load 24 (Operand.tmp 8), type := 24, pos := "law.go:136", after := #[{ on := 2, ground := Ground.guard }], guard := some (2, true) }) (v := undef) rfl (by kernel_rfl) (by kernel_rfl) (by kernel_rfl) (fun _ _ _ h => h) (Or.inr ⟨by rfl, rfl⟩) hS ?_
              simp only [Act.put, List.setIfInBounds_toArray, List.set_cons_zero, List.set_cons_succ]
              refine wpAnyH_take (i := 4) (oi := { dst := some 84, op := Op.move (Operand.tmp 7), type := 46, pos := "law.go:136", after := #[{ on := 2, ground := Ground.guard }], guard := some (2, true) }) (v := undef) rfl (by kernel_rfl) (by kernel_rfl) (by kernel_rfl) (fun _ _ _ h => h) (Or.inr ⟨by rfl, rfl⟩) hS ?_
              simp only [Act.put, List.setIfInBounds_toArray, List.set_cons_zero, List.set_cons_succ]
              refine wpAnyH_take (i := 5) (oi := { dst := some 85, op := Op.call { callee := Callee.value (Operand.func 44), args := #[Operand.tmp 83, Operand.tmp 84], argTypes := #[24, 46] }, type := 3, pos := "law.go:136", after := #[{ on := 3, ground := Ground.data }, { on := 4, ground := Ground.data }, { on := 2, ground := Ground.chain }, { on := 2, ground := Ground.guard }], guard := some (2, true) }) (v := undef) rfl (by kernel_rfl) (by kernel_rfl) (by kernel_rfl) (fun _ _ _ h => h) (Or.inr ⟨by rfl, rfl⟩) hS ?_
              simp only [Act.put, List.setIfInBounds_toArray, List.set_cons_zero, List.set_cons_succ]
              refine wpAnyH_take (i := 6) (oi := { dst := some 86, op := Op.load 24 (Operand.tmp 3), type := 24, pos := "law.go:136", after := #[{ on := 2, ground := Ground.guard }], guard := some (2, true) }) (v := undef) rfl (by kernel_rfl) (by kernel_rfl) (by kernel_rfl) (fun _ _ _ h => h) (Or.inr ⟨by rfl, rfl⟩) hS ?_
              simp only [Act.put, List.setIfInBounds_toArray, List.set_cons_zero, List.set_cons_succ]
              refine wpAnyH_take (i := 7) (oi := { dst := some 87, op := Op.move (Operand.tmp 7), type := 46, pos := "law.go:136", after := #[{ on := 2, ground := Ground.guard }], guard := some (2, true) }) (v := undef) rfl (by kernel_rfl) (by kernel_rfl) (by kernel_rfl) (fun _ _ _ h => h) (Or.inr ⟨by rfl, rfl⟩) hS ?_
              simp only [Act.put, List.setIfInBounds_toArray, List.set_cons_zero, List.set_cons_succ]
              refine wpAnyH_take (i := 8) (oi := { dst := some 88, op := Op.call { callee := Callee.value (Operand.func 44), args := #[Operand.tmp 86, Operand.tmp 87], argTypes := #[24, 46] }, type := 3, pos := "law.go:136", after := #[{ on := 6, ground := Ground.data }, { on := 7, ground := Ground.data }, { on := 5, ground := Ground.chain }, { on := 2, ground := Ground.guard }], guard := some (2, true) }) (v := undef) rfl (by kernel_rfl) (by kernel_rfl) (by kernel_rfl) (fun _ _ _ h => h) (Or.inr ⟨by rfl, rfl⟩) hS ?_
              simp only [Act.put, List.setIfInBounds_toArray, List.set_cons_zero, List.set_cons_succ]
              refine wpAnyH_take (i := 9) (oi := { dst := some 89, op := Op.fieldAddr 63 (Operand.tmp 5) 3, type := 0, pos := "law.go:136", after := #[{ on := 2, ground := Ground.guard }], guard := some (2, true) }) (v := undef) rfl (by kernel_rfl) (by kernel_rfl) (by kernel_rfl) (fun _ _ _ h => h) (Or.inr ⟨by rfl, rfl⟩) hS ?_
              simp only [Act.put, List.setIfInBounds_toArray, List.set_cons_zero, List.set_cons_succ]
              refine wpAnyH_take (i := 10) (oi := { dst := some 90, op := Op.load 5 (Operand.tmp 89), type := 5, pos := "law.go:136", after := #[{ on := 9, ground := Ground.data }, { on := 2, ground := Ground.guard }], guard := some (2, true) }) (v := undef) rfl (by kernel_rfl) (by kernel_rfl) (by kernel_rfl) (fun _ _ _ h => h) (Or.inr ⟨by rfl, rfl⟩) hS ?_
              simp only [Act.put, List.setIfInBounds_toArray, List.set_cons_zero, List.set_cons_succ]
              refine wpAnyH_take (i := 11) (oi := { dst := some 91, op := Op.binOp BinOp.rem 5 (Operand.tmp 90) (Operand.const (Value.int IntKind.u8 40)) 5, type := 5, pos := "law.go:136", after := #[{ on := 10, ground := Ground.data }, { on := 2, ground := Ground.guard }], guard := some (2, true) }) (v := undef) rfl (by kernel_rfl) (by kernel_rfl) (by kernel_rfl) (fun _ _ _ h => h) (Or.inr ⟨by rfl, rfl⟩) hS ?_
              simp only [Act.put, List.setIfInBounds_toArray, List.set_cons_zero, List.set_cons_succ]
              refine wpAnyH_take (i := 12) (oi := { dst := some 92, op := Op.convert 5 3 (Operand.tmp 91), type := 3, pos := "law.go:136", after := #[{ on := 11, ground := Ground.data }, { on := 2, ground := Ground.guard }], guard := some (2, true) }) (v := undef) rfl (by kernel_rfl) (by kernel_rfl) (by kernel_rfl) (fun _ _ _ h => h) (Or.inr ⟨by rfl, rfl⟩) hS ?_
              simp only [Act.put, List.setIfInBounds_toArray, List.set_cons_zero, List.set_cons_succ]
              refine wpAnyH_take (i := 13) (oi := { dst := some 93, op := Op.binOp BinOp.add 3 (Operand.tmp 88) (Operand.tmp 92) 3, type := 3, pos := "law.go:136", after := #[{ on := 8, ground := Ground.data }, { on := 12, ground := Ground.data }, { on := 2, ground := Ground.guard }], guard := some (2, true) }) (v := undef) rfl (by kernel_rfl) (by kernel_rfl) (by kernel_rfl) (fun _ _ _ h => h) (Or.inr ⟨by rfl, rfl⟩) hS ?_
              simp only [Act.put, List.setIfInBounds_toArray, List.set_cons_zero, List.set_cons_succ]
              refine wpAnyH_take (i := 14) (oi := { dst := some 94, op := Op.binOp BinOp.neq 3 (Operand.tmp 85) (Operand.tmp 93) 3, type := 4, pos := "law.go:136", after := #[{ on := 5, ground := Ground.data }, { on := 13, ground := Ground.data }, { on := 2, ground := Ground.guard }], guard := some (2, true) }) (v := undef) rfl (by kernel_rfl) (by kernel_rfl) (by kernel_rfl) (fun _ _ _ h => h) (Or.inr ⟨by rfl, rfl⟩) hS ?_
              simp only [Act.put, List.setIfInBounds_toArray, List.set_cons_zero, List.set_cons_succ]
              refine wpAnyH_take (i := 15) (oi := { dst := some 95, op := Op.pick (Operand.tmp 82) (Operand.tmp 94) (Operand.const (Value.bool false)), type := 4, pos := "law.go:136", after := #[{ on := 2, ground := Ground.data }, { on := 14, ground := Ground.data }], guard := none }) (v := .bool false) rfl (by kernel_rfl) (by kernel_rfl) (by kernel_rfl) (fun _ _ _ h => h) (Or.inl ⟨by rfl, ?_⟩) hS ?_
              · intro w9 hSw
                obtain ⟨s0, s1, s2, s3, s4, s5⟩ := hSw
                go_simp
              simp only [Act.put, List.setIfInBounds_toArray, List.set_cons_zero, List.set_cons_succ]
              refine wpAnyH_done (by kernel_rfl) ?_ _
              go_wp2
              go_meet
              exact ⟨rfl, HB.out⟩
          case rest =>
            obtain ⟨rfl, HW3⟩ := hcut
            have HY := Lib.hid HW3
            clear HX HW3
            obtain ⟨x0, x1⟩ := HY.out.v.two.at1.cells
            obtain ⟨y0, y1⟩ := HY.out.v.two.at2.cells
            obtain ⟨u0, u1⟩ := HY.out.mx.at_.cells
            go_wp2_with fail
            have HZ := Lib.hid (HY.out.next ((Below.refl _ _).alloc (Nat.le_refl _) (.cells #[.int .i64 c2, .slice A2 v2.length cap2, .int .i64 mc, .slice A4 mv.length cap4, .int .i64 c1, .slice A1 v1.length cap1] 24)))
            have hLL : LL (wc.alloc (.cells #[.int .i64 c2, .slice A2 v2.length cap2, .int .i64 mc, .slice A4 mv.length cap4, .int .i64 c1, .slice A1 v1.length cap1] 24)) (wc.alloc (.cells #[.int .i64 c2, .slice A2 v2.length cap2, .int .i64 mc, .slice A4 mv.length cap4, .int .i64 c1, .slice A1 v1.length cap1] 24)).heap.size (some ⟨wc.heap.size, 0, none⟩) [⟨c2, A2, cap2, v2⟩, ⟨mc, A4, cap4, mv⟩, ⟨c1, A1, cap1, v1⟩] := LL.three (by go_simp) (by go_simp) (by go_simp) (by go_simp) (by go_simp) (by go_simp) (by simp) HZ.out.v.two.va2 HZ.out.mx.va HZ.out.v.two.va1
            have hsub : Calls Tryz.prog 29 #[.agg #[.int .i64 c1, .slice A1 v1.length cap1], .slice (some ⟨wc.heap.size, 0, none⟩) 3 3] (wc.alloc (.cells #[.int .i64 c2, .slice A2 v2.length cap2, .int .i64 mc, .slice A4 mv.length cap4, .int .i64 c1, .slice A1 v1.length cap1] 24)) _ := subst_any c1 A1 cap1 v1 (some ⟨wc.heap.size, 0, none⟩) 3 [⟨c2, A2, cap2, v2⟩, ⟨mc, A4, cap4, mv⟩, ⟨c1, A1, cap1, v1⟩] _ _ HZ.out.v.two.va1 hLL (Nat.le_refl _) (by have := HSZ.out; omega) (by
              intro l hl
              have h1 := HSZ.out
              have h2 := HMVL.out
              simp only [List.mem_cons, List.not_mem_nil, or_false] at hl
              rcases hl with rfl | rfl | rfl
              · show v2.length ≤ 100; omega
              · show mv.length ≤ 100; omega
              · show v1.length ≤ 100; omega)
            have HSV0 := Lib.hid (subst_val (ps := [p0, p1, p2]) HPS.out rfl G1.out ⟨c2, A2, cap2, v2⟩ ⟨mc, A4, cap4, mv⟩ ⟨c1, A1, cap1, v1⟩ G2.out GM.out.1 G1.out)
            refine hsub.mono ?_
            rintro e w8 ⟨A8, cap8, rfl, hv8, hb8⟩
            have H8 := Lib.hid (HZ.out.next hb8)
            have X8 := Lib.hid hv8
            clear hb8 hv8 hsub hLL HY HZ x0 x1 y0 y1 u0 u1
            generalize (subR c1 v1 [⟨c2, A2, cap2, v2⟩, ⟨mc, A4, cap4, mv⟩, ⟨c1, A1, cap1, v1⟩]).1.1 = sc at *
            generalize (subR c1 v1 [⟨c2, A2, cap2, v2⟩, ⟨mc, A4, cap4, mv⟩, ⟨c1, A1, cap1, v1⟩]).1.2 = sv at *
            generalize (subR c1 v1 [⟨c2, A2, cap2, v2⟩, ⟨mc, A4, cap4, mv⟩, ⟨c1, A1, cap1, v1⟩]).2 = se at *
            have HB := Lib.hid (show VM w (w8.alloc (.cells #[.int .i64 sc, .slice A8 sv.length cap8] 24)) c1 A1 cap1 v1 c2 A2 cap2 v2 p0 p1 p2 xn w4.heap.size pc A3 cap3 pv w5.heap.size mc A4 cap4 mv ∧ LvIn (w8.alloc (.cells #[.int .i64 sc, .slice A8 sv.length cap8] 24)) w8.heap.size sc A8 cap8 sv from ⟨H8.out.next ((Below.refl _ _).alloc (Nat.le_refl _) _), LvIn.new X8.out⟩)
            by_cases hz : se = 0
            · obtain ⟨_, hsq⟩ := HSV0.out.1 hz
              rw [HVA.out, HVB.out, HM3.out] at hsq
              subst hz
              obtain ⟨q, hq⟩ : ∃ q, q = valB [vb, mm, va] c1 v1 := ⟨_, rfl⟩
              have HSQ := Lib.hid hq.symm
              have HSV := Lib.hid (hsq.trans hq.symm)
              clear hq hsq
              have HMB : Hid (0 ≤ mm ∧ mm ≤ 1000000000) := Lib.hid (by have h1 := HLE.out; have h2 := HMM.out; omega)
              go_wp2_with fail
              have HB := Lib.hid (show VM w (w8.alloc (.cells #[.int .i64 sc, .slice A8 sv.length cap8] 24)).drew c1 A1 cap1 v1 c2 A2 cap2 v2 p0 p1 p2 xn w4.heap.size pc A3 cap3 pv w5.heap.size mc A4 cap4 mv ∧ LvIn (w8.alloc (.cells #[.int .i64 sc, .slice A8 sv.length cap8] 24)).drew w8.heap.size sc A8 cap8 sv from ⟨HB.out.1.drew, HB.out.2.below ⟨rfl, rfl, rfl, Nat.le_refl _, fun _ _ => rfl⟩⟩)
              refine wp_region_held_drew (S := fun w' => w'.cell? ⟨w.heap.size, 0, none⟩ = some (.int .i64 c1) ∧ w'.cell? ⟨w.heap.size, 1, none⟩ = some (.slice A1 v1.length cap1) ∧ w'.cell? ⟨w.heap.size + 1, 0, none⟩ = some (.int .i64 c2) ∧ w'.cell? ⟨w.heap.size + 1, 1, none⟩ = some (.slice A2 v2.length cap2) ∧ w'.cell? ⟨w5.heap.size, 0, none⟩ = some (.int .i64 mc) ∧ w'.cell? ⟨w5.heap.size, 1, none⟩ = some (.slice A4 mv.length cap4) ∧ w'.cell? ⟨w8.heap.size, 0, none⟩ = some (.int .i64 sc) ∧ w'.cell? ⟨w8.heap.size, 1, none⟩ = some (.slice A8 sv.length cap8)) (by kernel_rfl) (⟨HB.out.1.v.two.at1.cells.1, HB.out.1.v.two.at1.cells.2, HB.out.1.v.two.at2.cells.1, HB.out.1.v.two.at2.cells.2, HB.out.1.mx.at_.cells.1, HB.out.1.mx.at_.cells.2, HB.out.2.at_.cells.1, HB.out.2.at_.cells.2⟩) ?_
              intro hS
              refine wpAnyH_take (i := 0) (oi := { dst := some 112, op := Op.load 24 (Operand.tmp 12), type := 24, pos := "law.go:143", after := #[], guard := none }) (v := .agg #[.int .i64 sc, .slice A8 sv.length cap8]) rfl (by kernel_rfl) (by kernel_rfl) (by kernel_rfl) (fun _ _ _ h => h) (Or.inl ⟨by rfl, ?_⟩) hS ?_
              · intro w9 hSw
                obtain ⟨s0, s1, s2, s3, s4, s5, s6, s7⟩ := hSw
                go_simp
              simp only [Act.put, List.setIfInBounds_toArray, List.set_cons_zero, List.set_cons_succ]
              refine wpAnyH_take (i := 1) (oi := { dst := some 113, op := Op.move (Operand.tmp 7), type := 46, pos := "law.go:143", after := #[], guard := none }) (v := .slice (some ⟨w.heap.size + 1 + 1 + 1, 0, none⟩) 3 3) rfl (by kernel_rfl) (by kernel_rfl) (by kernel_rfl) (fun _ _ _ h => h) (Or.inl ⟨by rfl, ?_⟩) hS ?_
              · intro w9 hSw
                obtain ⟨s0, s1, s2, s3, s4, s5, s6, s7⟩ := hSw
                go_simp
              simp only [Act.put, List.setIfInBounds_toArray, List.set_cons_zero, List.set_cons_succ]
              refine wpAnyH_take (i := 3) (oi := { dst := some 115, op := Op.load 24 (Operand.tmp 3), type := 24, pos := "law.go:143", after := #[], guard := none }) (v := .agg #[.int .i64 c1, .slice A1 v1.length cap1]) rfl (by kernel_rfl) (by kernel_rfl) (by kernel_rfl) (fun _ _ _ h => h) (Or.inl ⟨by rfl, ?_⟩) hS ?_
              · intro w9 hSw
                obtain ⟨s0, s1, s2, s3, s4, s5, s6, s7⟩ := hSw
                go_simp
              simp only [Act.put, List.setIfInBounds_toArray, List.set_cons_zero, List.set_cons_succ]
              refine wpAnyH_take (i := 4) (oi := { dst := some 116, op := Op.load 24 (Operand.tmp 4), type := 24, pos := "law.go:143", after := #[], guard := none }) (v := .agg #[.int .i64 c2, .slice A2 v2.length cap2]) rfl (by kernel_rfl) (by kernel_rfl) (by kernel_rfl) (fun _ _ _ h => h) (Or.inl ⟨by rfl, ?_⟩) hS ?_
              · intro w9 hSw
                obtain ⟨s0, s1, s2, s3, s4, s5, s6, s7⟩ := hSw
                go_simp
              simp only [Act.put, List.setIfInBounds_toArray, List.set_cons_zero, List.set_cons_succ]
              refine wpAnyH_take (i := 5) (oi := { dst := some 117, op := Op.move (Operand.tmp 7), type := 46, pos := "law.go:143", after := #[], guard := none }) (v := .slice (some ⟨w.heap.size + 1 + 1 + 1, 0, none⟩) 3 3) rfl (by kernel_rfl) (by kernel_rfl) (by kernel_rfl) (fun _ _ _ h => h) (Or.inl ⟨by rfl, ?_⟩) hS ?_
              · intro w9 hSw
                obtain ⟨s0, s1, s2, s3, s4, s5, s6, s7⟩ := hSw
                go_simp
              simp only [Act.put, List.setIfInBounds_toArray, List.set_cons_zero, List.set_cons_succ]
              refine wpAnyH_take (i := 7) (oi := { dst := some 119, op := Op.load 24 (Operand.tmp 10), type := 24, pos := "law.go:143", after := #[], guard := none }) (v := .agg #[.int .i64 mc, .slice A4 mv.length cap4]) rfl (by kernel_rfl) (by kernel_rfl) (by kernel_rfl) (fun _ _ _ h => h) (Or.inl ⟨by rfl, ?_⟩) hS ?_
              · intro w9 hSw
                obtain ⟨s0, s1, s2, s3, s4, s5, s6, s7⟩ := hSw
                go_simp
              simp only [Act.put, List.setIfInBounds_toArray, List.set_cons_zero, List.set_cons_succ]
              refine wpAnyH_take (i := 8) (oi := { dst := some 120, op := Op.move (Operand.tmp 7), type := 46, pos := "law.go:143", after := #[], guard := none }) (v := .slice (some ⟨w.heap.size + 1 + 1 + 1, 0, none⟩) 3 3) rfl (by kernel_rfl) (by kernel_rfl) (by kernel_rfl) (fun _ _ _ h => h) (Or.inl ⟨by rfl, ?_⟩) hS ?_
              · intro w9 hSw
                obtain ⟨s0, s1, s2, s3, s4, s5, s6, s7⟩ := hSw
                go_simp
              simp only [Act.put, List.setIfInBounds_toArray, List.set_cons_zero, List.set_cons_succ]
              refine wpAnyH_take (i := 10) (oi := { dst := some 122, op := Op.load 24 (Operand.tmp 3), type := 24, pos := "law.go:143", after := #[], guard := none }) (v := .agg #[.int .i64 c1, .slice A1 v1.length cap1]) rfl (by kernel_rfl) (by kernel_rfl) (by kernel_rfl) (fun _ _ _ h => h) (Or.inl ⟨by rfl, ?_⟩) hS ?_
              · intro w9 hSw
                obtain ⟨s0, s1, s2, s3, s4, s5, s6, s7⟩ := hSw
                go_simp
              simp only [Act.put, List.setIfInBounds_toArray, List.set_cons_zero, List.set_cons_succ]
              refine wpAnyH_take (i := 11) (oi := { dst := some 123, op := Op.move (Operand.tmp 7), type := 46, pos := "law.go:143", after := #[], guard := none }) (v := .slice (some ⟨w.heap.size + 1 + 1 + 1, 0, none⟩) 3 3) rfl (by kernel_rfl) (by kernel_rfl) (by kernel_rfl) (fun _ _ _ h => h) (Or.inl ⟨by rfl, ?_⟩) hS ?_
              · intro w9 hSw
                obtain ⟨s0, s1, s2, s3, s4, s5, s6, s7⟩ := hSw
                go_simp
              simp only [Act.put, List.setIfInBounds_toArray, List.set_cons_zero, List.set_cons_succ]
              refine wpAnyH_ready (rs := [2]) (by kernel_rfl) (List.cons_ne_nil _ _) ?_
              refine AllReadyH.cons (o := { dst := some 114, op := Op.call { callee := Callee.value (Operand.func 44), args := #[Operand.tmp 112, Operand.tmp 113], argTypes := #[24, 46] }, type := 3, pos := "law.go:143", after := #[{ on := 0, ground := Ground.data }, { on := 1, ground := Ground.data }], guard := none }) rfl (fun K hK => ?_) AllReadyH.nil
              go_simp
              go_at_call 44
              refine (VAL.out _ sc A8 cap8 sv HB.out.1.v HB.out.2.va).mono ?_
              rw [HSV.out]
              rintro e w7 ⟨rfl, hb7⟩
              have HB := Lib.hid (And.intro (HB.out.1.next hb7) (HB.out.2.below hb7))
              clear hb7
              try go_simp
              refine hK _ _ (⟨HB.out.1.v.two.at1.cells.1, HB.out.1.v.two.at1.cells.2, HB.out.1.v.two.at2.cells.1, HB.out.1.v.two.at2.cells.2, HB.out.1.mx.at_.cells.1, HB.out.1.mx.at_.cells.2, HB.out.2.at_.cells.1, HB.out.2.at_.cells.2⟩) ?_
              clear hS
              intro hS
              clear hK K
              refine wpAnyH_ready (rs := [6]) (by kernel_rfl) (List.cons_ne_nil _ _) ?_
              refine AllReadyH.cons (o := { dst := some 118, op := Op.call { callee := Callee.value (Operand.func 44), args := #[Operand.tmp 116, Operand.tmp 117], argTypes := #[24, 46] }, type := 3, pos := "law.go:143", after := #[{ on := 4, ground := Ground.data }, { on := 5, ground := Ground.data }, { on := 2, ground := Ground.chain }], guard := none }) rfl (fun K hK => ?_) AllReadyH.nil
              go_simp
              go_at_call 44
              refine (VAL.out _ c2 A2 cap2 v2 HB.out.1.v HB.out.1.v.two.va2).mono ?_
              rw [HVB.out]
              rintro e w7 ⟨rfl, hb7⟩
              have HB := Lib.hid (And.intro (HB.out.1.next hb7) (HB.out.2.below hb7))
              clear hb7
              try go_simp
              refine hK _ _ (⟨HB.out.1.v.two.at1.cells.1, HB.out.1.v.two.at1.cells.2, HB.out.1.v.two.at2.cells.1, HB.out.1.v.two.at2.cells.2, HB.out.1.mx.at_.cells.1, HB.out.1.mx.at_.cells.2, HB.out.2.at_.cells.1, HB.out.2.at_.cells.2⟩) ?_
              clear hS
              intro hS
              clear hK K
              refine wpAnyH_ready (rs := [9]) (by kernel_rfl) (List.cons_ne_nil _ _) ?_
              refine AllReadyH.cons (o := { dst := some 121, op := Op.call { callee := Callee.value (Operand.func 44), args := #[Operand.tmp 119, Operand.tmp 120], argTypes := #[24, 46] }, type := 3, pos := "law.go:143", after := #[{ on := 7, ground := Ground.data }, { on := 8, ground := Ground.data }, { on := 6, ground := Ground.chain }], guard := none }) rfl (fun K hK => ?_) AllReadyH.nil
              go_simp
              go_at_call 44
              refine (VAL.out _ mc A4 cap4 mv HB.out.1.v HB.out.1.mx.va).mono ?_
              rw [HM3.out]
              rintro e w7 ⟨rfl, hb7⟩
              have HB := Lib.hid (And.intro (HB.out.1.next hb7) (HB.out.2.below hb7))
              clear hb7
              try go_simp
              refine hK _ _ (⟨HB.out.1.v.two.at1.cells.1, HB.out.1.v.two.at1.cells.2, HB.out.1.v.two.at2.cells.1, HB.out.1.v.two.at2.cells.2, HB.out.1.mx.at_.cells.1, HB.out.1.mx.at_.cells.2, HB.out.2.at_.cells.1, HB.out.2.at_.cells.2⟩) ?_
              clear hS
              intro hS
              clear hK K
              refine wpAnyH_ready (rs := [12]) (by kernel_rfl) (List.cons_ne_nil _ _) ?_
              refine AllReadyH.cons (o := { dst := some 124, op := Op.call { callee := Callee.value (Operand.func 44), args := #[Operand.tmp 122, Operand.tmp 123], argTypes := #[24, 46] }, type := 3, pos := "law.go:143", after := #[{ on := 10, ground := Ground.data }, { on := 11, ground := Ground.data }, { on := 9, ground := Ground.chain }], guard := none }) rfl (fun K hK => ?_) AllReadyH.nil
              go_simp
              go_at_call 44
              refine (VAL.out _ c1 A1 cap1 v1 HB.out.1.v HB.out.1.v.two.va1).mono ?_
              rw [HVA.out]
              rintro e w7 ⟨rfl, hb7⟩
              have HB := Lib.hid (And.intro (HB.out.1.next hb7) (HB.out.2.below hb7))
              clear hb7
              try go_simp
              refine hK _ _ (⟨HB.out.1.v.two.at1.cells.1, HB.out.1.v.two.at1.cells.2, HB.out.1.v.two.at2.cells.1, HB.out.1.v.two.at2.cells.2, HB.out.1.mx.at_.cells.1, HB.out.1.mx.at_.cells.2, HB.out.2.at_.cells.1, HB.out.2.at_.cells.2⟩) ?_
              clear hS
              intro hS
              clear hK K
              refine wpAnyH_ready (rs := [13]) (by kernel_rfl) (List.cons_ne_nil _ _) ?_
              refine AllReadyH.cons (o := { dst := some 125, op := Op.buildSlice 46 3 #[(0, Operand.tmp 118), (1, Operand.tmp 121), (2, Operand.tmp 124)], type := 46, pos := "law.go:143", after := #[{ on := 6, ground := Ground.data }, { on := 9, ground := Ground.data }, { on := 12, ground := Ground.data }], guard := none }) rfl (fun K hK => ?_) AllReadyH.nil
              go_simp
              have HI := Lib.hid (show IA (w7.alloc (.cells #[.int .i64 vb, .int .i64 mm, .int .i64 va] 3)) (w7.alloc (.cells #[.int .i64 vb, .int .i64 mm, .int .i64 va] 3)).heap.size (some ⟨w7.heap.size, 0, none⟩) [vb, mm, va] from IA.three (by go_simp) (by go_simp) (by go_simp) (by simp))
              have HB := Lib.hid (show VM w (w7.alloc (.cells #[.int .i64 vb, .int .i64 mm, .int .i64 va] 3)) c1 A1 cap1 v1 c2 A2 cap2 v2 p0 p1 p2 xn w4.heap.size pc A3 cap3 pv w5.heap.size mc A4 cap4 mv ∧ LvIn (w7.alloc (.cells #[.int .i64 vb, .int .i64 mm, .int .i64 va] 3)) w8.heap.size sc A8 cap8 sv from ⟨HB.out.1.next ((Below.refl _ _).alloc (Nat.le_refl _) _), HB.out.2.below ((Below.refl _ _).alloc (Nat.le_refl _) _)⟩)
              refine hK _ _ (⟨HB.out.1.v.two.at1.cells.1, HB.out.1.v.two.at1.cells.2, HB.out.1.v.two.at2.cells.1, HB.out.1.v.two.at2.cells.2, HB.out.1.mx.at_.cells.1, HB.out.1.mx.at_.cells.2, HB.out.2.at_.cells.1, HB.out.2.at_.cells.2⟩) ?_
              clear hS
              intro hS
              clear hK K
              refine wpAnyH_ready (rs := [14]) (by kernel_rfl) (List.cons_ne_nil _ _) ?_
              refine AllReadyH.cons (o := { dst := some 126, op := Op.call { callee := Callee.value (Operand.func 44), args := #[Operand.tmp 115, Operand.tmp 125], argTypes := #[24, 46] }, type := 3, pos := "law.go:143", after := #[{ on := 3, ground := Ground.data }, { on := 13, ground := Ground.data }, { on := 12, ground := Ground.chain }], guard := none }) rfl (fun K hK => ?_) AllReadyH.nil
              go_simp
              go_at_call 44
              refine (value3_any c1 A1 cap1 v1 w7.heap.size 3 vb mm va _ HB.out.1.v.two.va1 HI.out (by have := HLE.out; omega) (by have := HMB.out; omega) (by have := HLE.out; omega)).mono ?_
              rw [HSQ.out]
              rintro e w10 ⟨rfl, hb7⟩
              have HB := Lib.hid (And.intro (HB.out.1.next hb7) (HB.out.2.below hb7))
              clear hb7
              try go_simp
              refine hK _ _ (⟨HB.out.1.v.two.at1.cells.1, HB.out.1.v.two.at1.cells.2, HB.out.1.v.two.at2.cells.1, HB.out.1.v.two.at2.cells.2, HB.out.1.mx.at_.cells.1, HB.out.1.mx.at_.cells.2, HB.out.2.at_.cells.1, HB.out.2.at_.cells.2⟩) ?_
              clear hS
              intro hS
              clear hK K
              refine wpAnyH_take (i := 15) (oi := { dst := some 127, op := Op.binOp BinOp.eql 3 (Operand.tmp 114) (Operand.tmp 126) 3, type := 4, pos := "law.go:143", after := #[{ on := 2, ground := Ground.data }, { on := 14, ground := Ground.data }], guard := none }) (v := .bool true) rfl (by kernel_rfl) (by kernel_rfl) (by kernel_rfl) (fun _ _ _ h => h) (Or.inl ⟨by rfl, ?_⟩) hS ?_
              · intro w9 hSw
                obtain ⟨s0, s1, s2, s3, s4, s5, s6, s7⟩ := hSw
                go_simp
              simp only [Act.put, List.setIfInBounds_toArray, List.set_cons_zero, List.set_cons_succ]
              refine wpAnyH_take (i := 16) (oi := { dst := some 128, op := Op.move (Operand.tmp 127), type := 4, pos := "law.go:143", after := #[{ on := 15, ground := Ground.data }, { on := 14, ground := Ground.chain }], guard := none }) (v := .bool true) rfl (by kernel_rfl) (by kernel_rfl) (by kernel_rfl) (fun _ _ _ h => h) (Or.inl ⟨by rfl, ?_⟩) hS ?_
              · intro w9 hSw
                obtain ⟨s0, s1, s2, s3, s4, s5, s6, s7⟩ := hSw
                go_simp
              simp only [Act.put, List.setIfInBounds_toArray, List.set_cons_zero, List.set_cons_succ]
              refine wpAnyH_ready (rs := [17]) (by kernel_rfl) (List.cons_ne_nil _ _) ?_
              refine AllReadyH.cons (o := { dst := some 129, op := Op.call { callee := Callee.value (Operand.func 14), args := #[], argTypes := #[] }, type := 4, pos := "law.go:143", after := #[{ on := 16, ground := Ground.chain }, { on := 16, ground := Ground.guard }], guard := some (16, true) }) rfl (fun K hK => ?_) AllReadyH.nil
              go_simp
              go_at_call 14
              refine (awake_any _ HB.out.1.v.two.pow).mono ?_
              rintro e w11 ⟨rfl, hb7⟩
              have HB := Lib.hid (And.intro (HB.out.1.next hb7) (HB.out.2.below hb7))
              clear hb7
              try go_simp
              refine hK _ _ (⟨HB.out.1.v.two.at1.cells.1, HB.out.1.v.two.at1.cells.2, HB.out.1.v.two.at2.cells.1, HB.out.1.v.two.at2.cells.2, HB.out.1.mx.at_.cells.1, HB.out.1.mx.at_.cells.2, HB.out.2.at_.cells.1, HB.out.2.at_.cells.2⟩) ?_
              clear hS
              intro hS
              clear hK K
              refine wpAnyH_take (i := 18) (oi := { dst := some 130, op := Op.pick (Operand.tmp 128) (Operand.tmp 129) (Operand.const (Value.bool false)), type := 4, pos := "law.go:143", after := #[{ on := 16, ground := Ground.data }, { on := 17, ground := Ground.data }], guard := none }) (v := .bool true) rfl (by kernel_rfl) (by kernel_rfl) (by kernel_rfl) (fun _ _ _ h => h) (Or.inl ⟨by rfl, ?_⟩) hS ?_
              · intro w9 hSw
                obtain ⟨s0, s1, s2, s3, s4, s5, s6, s7⟩ := hSw
                go_simp
              simp only [Act.put, List.setIfInBounds_toArray, List.set_cons_zero, List.set_cons_succ]
              refine wpAnyH_take (i := 19) (oi := { dst := some 6, op := Op.assign (Operand.tmp 130), type := 4, pos := "law.go:143", after := #[{ on := 18, ground := Ground.data }, { on := 17, ground := Ground.chain }, { on := 0, ground := Ground.phase }, { on := 1, ground := Ground.phase }, { on := 2, ground := Ground.phase }, { on := 3, ground := Ground.phase }, { on := 4, ground := Ground.phase }, { on := 5, ground := Ground.phase }, { on := 6, ground := Ground.phase }, { on := 7, ground := Ground.phase }, { on := 8, ground := Ground.phase }, { on := 9, ground := Ground.phase }, { on := 10, ground := Ground.phase }, { on := 11, ground := Ground.phase }, { on := 12, ground := Ground.phase }, { on := 13, ground := Ground.phase }, { on := 14, ground := Ground.phase }, { on := 15, ground := Ground.phase }, { on := 16, ground := Ground.phase }, { on := 17, ground := Ground.phase }, { on := 18, ground := Ground.phase }], guard := none }) (v := .bool true) rfl (by kernel_rfl) (by kernel_rfl) (by kernel_rfl) (fun _ _ _ h => h) (Or.inl ⟨by rfl, ?_⟩) hS ?_
              · intro w9 hSw
                obtain ⟨s0, s1, s2, s3, s4, s5, s6, s7⟩ := hSw
                go_simp
              simp only [Act.put, List.setIfInBounds_toArray, List.set_cons_zero, List.set_cons_succ]
              refine wpAnyH_done (by kernel_rfl) ?_ _
              go_wp2
              go_ret
              exact ⟨rfl, HB.out.1.v.two.below⟩
            · have h15 := HSV0.out.2 hz
              subst h15
              clear hz
              go_wp2_with fail
              refine (awake_any _ HB.out.1.v.two.pow).mono ?_
              rintro e w9 ⟨rfl, hb9⟩
              have VE := Lib.hid (HB.out.1.v.next hb9)
              clear hb9
              go_wp2
              go_ret
              exact ⟨rfl, VE.out.two.below⟩
end Go.Proofs.YtipnabbdhmapkaaGreatDoor
