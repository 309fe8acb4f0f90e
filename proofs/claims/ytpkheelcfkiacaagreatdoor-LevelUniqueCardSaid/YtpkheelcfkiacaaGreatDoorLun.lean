/- LevelUnique: the law's walk. -/
import Derived.Test.YtpkheelcfkiacaaGreatDoorLcm
import Derived.Test.YtpkheelcfkiacaaGreatDoorUnq
import Derived.Deep.DeepCutAuto
namespace Go.Proofs.YtpkheelcfkiacaaGreatDoor
open Go.RowKit

theorem few_three (b : Nat) (c1 : Int) (A1 : Option Addr) (n1 cap1 : Nat) (c2 : Int) (A2 : Option Addr) (n2 cap2 : Nat) (c3 : Int) (A3 : Option Addr) (n3 cap3 k : Nat) (w : World)
    (h0 : w.cell? ⟨b, 0, none⟩ = some (.int .i64 c1)) (h1 : w.cell? ⟨b, 1, none⟩ = some (.slice A1 n1 cap1)) (h2 : w.cell? ⟨b, 2, none⟩ = some (.int .i64 c2)) (h3 : w.cell? ⟨b, 3, none⟩ = some (.slice A2 n2 cap2))
    (h4 : w.cell? ⟨b, 4, none⟩ = some (.int .i64 c3)) (h5 : w.cell? ⟨b, 5, none⟩ = some (.slice A3 n3 cap3)) (hb : b < w.heap.size) :
    Calls Tryz.prog 13 #[.slice (some ⟨b, 0, none⟩) 3 k] w fun e w' => e = .returned (.bool (decide (n1 ≤ 12) && (decide (n2 ≤ 12) && decide (n3 ≤ 12)))) ∧ Below w.heap.size w w' := by
  have hl : LA w w.heap.size (some ⟨b, 0, none⟩) [(c1, A1, n1, cap1), (c2, A2, n2, cap2), (c3, A3, n3, cap3)] := ⟨by simp, fun _ => ⟨b, 0, rfl, hb, fun j c' a' n' k' hj => by
    rcases j with _ | _ | _ | j
    · simp at hj
      obtain ⟨rfl, rfl, rfl, rfl⟩ := hj
      exact ⟨by simpa using h0, by simpa using h1⟩
    · simp at hj
      obtain ⟨rfl, rfl, rfl, rfl⟩ := hj
      exact ⟨by simpa using h2, by simpa using h3⟩
    · simp at hj
      obtain ⟨rfl, rfl, rfl, rfl⟩ := hj
      exact ⟨by simpa using h4, by simpa using h5⟩
    · simp at hj⟩⟩
  have hc := few_any (some ⟨b, 0, none⟩) k [(c1, A1, n1, cap1), (c2, A2, n2, cap2), (c3, A3, n3, cap3)] w.heap.size w hl (Nat.le_refl _)
  have e : (!bigB [(c1, A1, n1, cap1), (c2, A2, n2, cap2), (c3, A3, n3, cap3)]) = (decide (n1 ≤ 12) && (decide (n2 ≤ 12) && decide (n3 ≤ 12))) := by
    simp only [bigB, List.any_cons, List.any_nil, Bool.or_false]
    by_cases hn1 : n1 ≤ 12 <;> by_cases hn2 : n2 ≤ 12 <;> by_cases hn3 : n3 ≤ 12 <;> simp [hn1, hn2, hn3] <;> omega
  rwa [e] at hc

set_option maxRecDepth 100000 in
set_option maxHeartbeats 8000000 in
theorem levelUnique_any (c1 : Int) (A1 : Option Addr) (cap1 : Nat) (v1 : List (Int × Int)) (c2 : Int) (A2 : Option Addr) (cap2 : Nat) (v2 : List (Int × Int)) (c3 : Int) (A3 : Option Addr) (cap3 : Nat) (v3 : List (Int × Int)) (w : World)
    (hv1 : VA w w.heap.size A1 v1) (hv2 : VA w w.heap.size A2 v2) (hv3 : VA w w.heap.size A3 v3) (hp : Pow w) :
    Calls Tryz.prog 12 #[.agg #[.int .i64 c1, .slice A1 v1.length cap1], .agg #[.int .i64 c2, .slice A2 v2.length cap2], .agg #[.int .i64 c3, .slice A3 v3.length cap3]] w fun e w' => e = .returned (.bool true) ∧ Below w.heap.size w w' := by
  obtain ⟨W0, hW0⟩ : ∃ W0 : World, W0 = ((w.alloc (.cells #[.int .i64 c1, .slice A1 v1.length cap1] 24)).alloc (.cells #[.int .i64 c2, .slice A2 v2.length cap2] 24)).alloc (.cells #[.int .i64 c3, .slice A3 v3.length cap3] 24) := ⟨_, rfl⟩
  have hb0 : Below w.heap.size w W0 := by subst hW0; exact (((Below.refl _ _).alloc (Nat.le_refl _) _).alloc (by simp) _).alloc (by simp; omega) _
  have l1 : LvAt W0 w.heap.size c1 A1 v1.length cap1 := by subst hW0; exact ((LvAt.new w c1 A1 v1.length cap1).alloc _).alloc _
  have l2 : LvAt W0 (w.heap.size + 1) c2 A2 v2.length cap2 := by
    subst hW0
    have := (LvAt.new (w.alloc (.cells #[.int .i64 c1, .slice A1 v1.length cap1] 24)) c2 A2 v2.length cap2).alloc (.cells #[.int .i64 c3, .slice A3 v3.length cap3] 24)
    simpa using this
  have l3 : LvAt W0 (w.heap.size + 1 + 1) c3 A3 v3.length cap3 := by
    subst hW0
    have := LvAt.new ((w.alloc (.cells #[.int .i64 c1, .slice A1 v1.length cap1] 24)).alloc (.cells #[.int .i64 c2, .slice A2 v2.length cap2] 24)) c3 A3 v3.length cap3
    simpa using this
  have T0 : Hid (TwoLv w W0 w.heap.size c1 A1 cap1 v1 (w.heap.size + 1) c2 A2 cap2 v2) := Lib.hid ⟨hv1.next0 hb0, hv2.next0 hb0, hp.below hb0, hb0, l1, l2⟩
  have X0 : Hid (TwoLv w W0 (w.heap.size + 1 + 1) c3 A3 cap3 v3 (w.heap.size + 1 + 1) c3 A3 cap3 v3) := Lib.hid ⟨hv3.next0 hb0, hv3.next0 hb0, hp.below hb0, hb0, l3, l3⟩
  obtain ⟨x0, x1⟩ := l1.cells
  obtain ⟨y0, y1⟩ := l2.cells
  obtain ⟨z0, z1⟩ := l3.cells
  clear hv1 hv2 hv3 hp hb0 l1 l2 l3
  go_enter Tryz.func12, Tryz.ntmps12
  go_upto_region 1 with fail
  rw [← hW0]
  clear hW0
  go_wp2_with fail
  refine (few_three W0.heap.size c1 A1 v1.length cap1 c2 A2 v2.length cap2 c3 A3 v3.length cap3 3 _ (by go_simp) (by go_simp) (by go_simp) (by go_simp) (by go_simp) (by go_simp) (by simp)).mono ?_
  rintro e w1 ⟨rfl, hb1⟩
  have T1 := Lib.hid ((T0.out.next ((Below.refl _ _).alloc (Nat.le_refl _) _)).next hb1)
  have X1 := Lib.hid ((X0.out.next ((Below.refl _ _).alloc (Nat.le_refl _) _)).next hb1)
  clear hb1 T0 X0 x0 x1 y0 y1 z0 z1
  generalize hdd : (decide (v1.length ≤ 12) && (decide (v2.length ≤ 12) && decide (v3.length ≤ 12))) = dd
  have HD := Lib.hid hdd
  clear hdd
  obtain ⟨x0, x1⟩ := T1.out.at1.cells
  obtain ⟨y0, y1⟩ := T1.out.at2.cells
  obtain ⟨z0, z1⟩ := X1.out.at1.cells
  have AW := Lib.hid (show ∀ W, Below w1.heap.size w1 W → Calls Tryz.prog 14 #[] W fun e w' => e = .returned (.bool true) ∧ Below w.heap.size w w' from fun W hb =>
    (awake_any W (T1.out.pow.below hb)).mono fun e w' h => ⟨h.1, (T1.out.below.trans (hb.mono T1.out.below.size)).trans (h.2.mono (T1.out.next hb).below.size)⟩)
  cases dd with
  | false =>
    go_wp2_with fail
    refine (AW.out _ (Below.refl _ _)).mono ?_
    rintro e w2 ⟨rfl, hb2⟩
    have HB2 := Lib.hid hb2
    clear hb2
    go_wp2
    go_ret
    exact ⟨rfl, HB2.out⟩
  | true =>
    have hsz : v1.length ≤ 12 ∧ v2.length ≤ 12 ∧ v3.length ≤ 12 := by
      have := HD.out
      simpa using this
    go_wp2_with fail
    refine (rvalid_any c1 A1 cap1 v1 _ _ T1.out.va1 (Nat.le_refl _)).mono ?_
    rintro e w2 ⟨rfl, hb2⟩
    have T2 := Lib.hid (T1.out.next hb2)
    have X2 := Lib.hid (X1.out.next hb2)
    have K2 := Lib.hid hb2
    clear hb2 x0 x1 y0 y1 z0 z1
    obtain ⟨x0, x1⟩ := T2.out.at1.cells
    obtain ⟨y0, y1⟩ := T2.out.at2.cells
    obtain ⟨z0, z1⟩ := X2.out.at1.cells
    rcases h1 : vldB c1 v1 with _ | _
    · go_wp2_with fail
      refine (AW.out _ K2.out).mono ?_
      rintro e w3 ⟨rfl, hb3⟩
      have HB3 := Lib.hid hb3
      clear hb3
      go_wp2
      go_ret
      exact ⟨rfl, HB3.out⟩
    · have H1 := Lib.hid h1
      clear h1
      go_wp2_with fail
      refine (rvalid_any c2 A2 cap2 v2 _ _ T2.out.va2 (Nat.le_refl _)).mono ?_
      rintro e w3 ⟨rfl, hb3⟩
      have T3 := Lib.hid (T2.out.next hb3)
      have X3 := Lib.hid (X2.out.next hb3)
      have K3 := Lib.hid (K2.out.trans (hb3.mono K2.out.size))
      clear hb3 x0 x1 y0 y1 z0 z1 T2 X2 K2
      obtain ⟨x0, x1⟩ := T3.out.at1.cells
      obtain ⟨y0, y1⟩ := T3.out.at2.cells
      obtain ⟨z0, z1⟩ := X3.out.at1.cells
      rcases h2 : vldB c2 v2 with _ | _
      · go_wp2_with fail
        refine (AW.out _ K3.out).mono ?_
        rintro e w4 ⟨rfl, hb4⟩
        have HB4 := Lib.hid hb4
        clear hb4
        go_wp2
        go_ret
        exact ⟨rfl, HB4.out⟩
      · have H2 := Lib.hid h2
        clear h2
        go_wp2_with fail
        refine (rvalid_any c3 A3 cap3 v3 _ _ X3.out.va1 (Nat.le_refl _)).mono ?_
        rintro e w4 ⟨rfl, hb4⟩
        have T4 := Lib.hid (T3.out.next hb4)
        have X4 := Lib.hid (X3.out.next hb4)
        have K4 := Lib.hid (K3.out.trans (hb4.mono K3.out.size))
        clear hb4 x0 x1 y0 y1 z0 z1 T3 X3 K3
        obtain ⟨x0, x1⟩ := T4.out.at1.cells
        obtain ⟨y0, y1⟩ := T4.out.at2.cells
        obtain ⟨z0, z1⟩ := X4.out.at1.cells
        rcases h3 : vldB c3 v3 with _ | _
        · go_wp2_with fail
          refine (AW.out _ K4.out).mono ?_
          rintro e w5 ⟨rfl, hb5⟩
          have HB5 := Lib.hid hb5
          clear hb5
          go_wp2
          go_ret
          exact ⟨rfl, HB5.out⟩
        · have H3 := Lib.hid h3
          clear h3 AW T1 X1 K4
          have han := Lib.hid (leq_anti H1.out H2.out)
          go_upto_region 3 with fail
          go_cut [42] from 31 to 42 (fun s42 wx => s42 = .bool false ∧ TwoLv w wx w.heap.size c1 A1 cap1 v1 (w.heap.size + 1) c2 A2 cap2 v2 ∧ TwoLv w wx (w.heap.size + 1 + 1) c3 A3 cap3 v3 (w.heap.size + 1 + 1) c3 A3 cap3 v3)
          case first =>
            rcases hab : leqB c1 v1 c2 v2 with _ | _
            · have hsm : Hid (sameB c1 v1 c2 v2 = false) := Lib.hid (by rw [← han.out, hab]; rfl)
              have HAB := Lib.hid hab
              clear hab
              have HB := Lib.hid (And.intro T4.out.drew X4.out.drew)
              refine wp_region_held_drew (S := fun w' => w'.cell? ⟨w.heap.size, 0, none⟩ = some (.int .i64 c1) ∧ w'.cell? ⟨w.heap.size, 1, none⟩ = some (.slice A1 v1.length cap1) ∧ w'.cell? ⟨w.heap.size + 1, 0, none⟩ = some (.int .i64 c2) ∧ w'.cell? ⟨w.heap.size + 1, 1, none⟩ = some (.slice A2 v2.length cap2)) (by kernel_rfl) (⟨HB.out.1.at1.cells.1, HB.out.1.at1.cells.2, HB.out.1.at2.cells.1, HB.out.1.at2.cells.2⟩) ?_
              intro hS
              refine wpAnyH_take (i := 0) (oi := { dst := some 31, op := Op.load 24 (Operand.tmp 3), type := 24, pos := "law.go:167", after := #[], guard := none }) (v := .agg #[.int .i64 c1, .slice A1 v1.length cap1]) rfl (by kernel_rfl) (by kernel_rfl) (by kernel_rfl) (fun _ _ _ h => h) (Or.inl ⟨by rfl, ?_⟩) hS ?_
              · intro w9 hSw
                obtain ⟨s0, s1, s2, s3⟩ := hSw
                go_simp
              simp only [Act.put, List.setIfInBounds_toArray, List.set_cons_zero, List.set_cons_succ]
              refine wpAnyH_take (i := 1) (oi := { dst := some 32, op := Op.load 24 (Operand.tmp 4), type := 24, pos := "law.go:167", after := #[], guard := none }) (v := .agg #[.int .i64 c2, .slice A2 v2.length cap2]) rfl (by kernel_rfl) (by kernel_rfl) (by kernel_rfl) (fun _ _ _ h => h) (Or.inl ⟨by rfl, ?_⟩) hS ?_
              · intro w9 hSw
                obtain ⟨s0, s1, s2, s3⟩ := hSw
                go_simp
              simp only [Act.put, List.setIfInBounds_toArray, List.set_cons_zero, List.set_cons_succ]
              refine wpAnyH_take (i := 8) (oi := { dst := some 39, op := Op.load 24 (Operand.tmp 3), type := 24, pos := "law.go:167", after := #[], guard := none }) (v := .agg #[.int .i64 c1, .slice A1 v1.length cap1]) rfl (by kernel_rfl) (by kernel_rfl) (by kernel_rfl) (fun _ _ _ h => h) (Or.inl ⟨by rfl, ?_⟩) hS ?_
              · intro w9 hSw
                obtain ⟨s0, s1, s2, s3⟩ := hSw
                go_simp
              simp only [Act.put, List.setIfInBounds_toArray, List.set_cons_zero, List.set_cons_succ]
              refine wpAnyH_take (i := 9) (oi := { dst := some 40, op := Op.load 24 (Operand.tmp 4), type := 24, pos := "law.go:167", after := #[], guard := none }) (v := .agg #[.int .i64 c2, .slice A2 v2.length cap2]) rfl (by kernel_rfl) (by kernel_rfl) (by kernel_rfl) (fun _ _ _ h => h) (Or.inl ⟨by rfl, ?_⟩) hS ?_
              · intro w9 hSw
                obtain ⟨s0, s1, s2, s3⟩ := hSw
                go_simp
              simp only [Act.put, List.setIfInBounds_toArray, List.set_cons_zero, List.set_cons_succ]
              refine wpAnyH_ready (rs := [2]) (by kernel_rfl) (List.cons_ne_nil _ _) ?_
              refine AllReadyH.cons (o := { dst := some 33, op := Op.call { callee := Callee.value (Operand.func 26), args := #[Operand.tmp 31, Operand.tmp 32], argTypes := #[24, 24] }, type := 4, pos := "law.go:167", after := #[{ on := 0, ground := Ground.data }, { on := 1, ground := Ground.data }], guard := none }) rfl (fun K hK => ?_) AllReadyH.nil
              go_simp
              go_at_call 26
              refine (leq_any c1 A1 cap1 v1 c2 A2 cap2 v2 _ _ HB.out.1.va1 HB.out.1.va2 (Nat.le_refl _)).mono ?_
              rw [HAB.out]
              rintro e w7 ⟨rfl, hb7⟩
              have HB := Lib.hid (And.intro (HB.out.1.next hb7) (HB.out.2.next hb7))
              clear hb7
              try go_simp
              refine hK _ _ (⟨HB.out.1.at1.cells.1, HB.out.1.at1.cells.2, HB.out.1.at2.cells.1, HB.out.1.at2.cells.2⟩) ?_
              clear hS
              intro hS
              clear hK K
              refine wpAnyH_take (i := 3) (oi := { dst := some 34, op := Op.move (Operand.tmp 33), type := 4, pos := "law.go:167", after := #[{ on := 2, ground := Ground.data }, { on := 2, ground := Ground.chain }], guard := none }) (v := .bool false) rfl (by kernel_rfl) (by kernel_rfl) (by kernel_rfl) (fun _ _ _ h => h) (Or.inl ⟨by rfl, ?_⟩) hS ?_
              · intro w9 hSw
                obtain ⟨s0, s1, s2, s3⟩ := hSw
                go_simp
              simp only [Act.put, List.setIfInBounds_toArray, List.set_cons_zero, List.set_cons_succ]
              refine wpAnyH_take (i := 4) (oi := { dst := some 35, op := Op.load 24 (Operand.tmp 4), type := 24, pos := "law.go:167", after := #[{ on := 3, ground := Ground.guard }], guard := some (3, true) }) (v := undef) rfl (by kernel_rfl) (by kernel_rfl) (by kernel_rfl) (fun _ _ _ h => h) (Or.inr ⟨by rfl, rfl⟩) hS ?_
              simp only [Act.put, List.setIfInBounds_toArray, List.set_cons_zero, List.set_cons_succ]
              refine wpAnyH_take (i := 5) (oi := { dst := some 36, op := Op.load 24 (Operand.tmp 3), type := 24, pos := "law.go:167", after := #[{ on := 3, ground := Ground.guard }], guard := some (3, true) }) (v := undef) rfl (by kernel_rfl) (by kernel_rfl) (by kernel_rfl) (fun _ _ _ h => h) (Or.inr ⟨by rfl, rfl⟩) hS ?_
              simp only [Act.put, List.setIfInBounds_toArray, List.set_cons_zero, List.set_cons_succ]
              refine wpAnyH_take (i := 6) (oi := { dst := some 37, op := Op.call { callee := Callee.value (Operand.func 26), args := #[Operand.tmp 35, Operand.tmp 36], argTypes := #[24, 24] }, type := 4, pos := "law.go:167", after := #[{ on := 4, ground := Ground.data }, { on := 5, ground := Ground.data }, { on := 3, ground := Ground.chain }, { on := 3, ground := Ground.guard }], guard := some (3, true) }) (v := undef) rfl (by kernel_rfl) (by kernel_rfl) (by kernel_rfl) (fun _ _ _ h => h) (Or.inr ⟨by rfl, rfl⟩) hS ?_
              simp only [Act.put, List.setIfInBounds_toArray, List.set_cons_zero, List.set_cons_succ]
              refine wpAnyH_take (i := 7) (oi := { dst := some 38, op := Op.pick (Operand.tmp 34) (Operand.tmp 37) (Operand.const (Value.bool false)), type := 4, pos := "law.go:167", after := #[{ on := 3, ground := Ground.data }, { on := 6, ground := Ground.data }], guard := none }) (v := .bool false) rfl (by kernel_rfl) (by kernel_rfl) (by kernel_rfl) (fun _ _ _ h => h) (Or.inl ⟨by rfl, ?_⟩) hS ?_
              · intro w9 hSw
                obtain ⟨s0, s1, s2, s3⟩ := hSw
                go_simp
              simp only [Act.put, List.setIfInBounds_toArray, List.set_cons_zero, List.set_cons_succ]
              refine wpAnyH_ready (rs := [10]) (by kernel_rfl) (List.cons_ne_nil _ _) ?_
              refine AllReadyH.cons (o := { dst := some 41, op := Op.call { callee := Callee.value (Operand.func 28), args := #[Operand.tmp 39, Operand.tmp 40], argTypes := #[24, 24] }, type := 4, pos := "law.go:167", after := #[{ on := 8, ground := Ground.data }, { on := 9, ground := Ground.data }, { on := 6, ground := Ground.chain }], guard := none }) rfl (fun K hK => ?_) AllReadyH.nil
              go_simp
              go_at_call 28
              refine (same_any c1 A1 cap1 v1 c2 A2 cap2 v2 _ _ HB.out.1.va1 HB.out.1.va2 (Nat.le_refl _)).mono ?_
              rw [hsm.out]
              rintro e w7 ⟨rfl, hb7⟩
              have HB := Lib.hid (And.intro (HB.out.1.next hb7) (HB.out.2.next hb7))
              clear hb7
              try go_simp
              refine hK _ _ (⟨HB.out.1.at1.cells.1, HB.out.1.at1.cells.2, HB.out.1.at2.cells.1, HB.out.1.at2.cells.2⟩) ?_
              clear hS
              intro hS
              clear hK K
              refine wpAnyH_take (i := 11) (oi := { dst := some 42, op := Op.binOp BinOp.neq 4 (Operand.tmp 38) (Operand.tmp 41) 4, type := 4, pos := "law.go:167", after := #[{ on := 7, ground := Ground.data }, { on := 10, ground := Ground.data }], guard := none }) (v := .bool false) rfl (by kernel_rfl) (by kernel_rfl) (by kernel_rfl) (fun _ _ _ h => h) (Or.inl ⟨by rfl, ?_⟩) hS ?_
              · intro w9 hSw
                obtain ⟨s0, s1, s2, s3⟩ := hSw
                go_simp
              simp only [Act.put, List.setIfInBounds_toArray, List.set_cons_zero, List.set_cons_succ]
              refine wpAnyH_done (by kernel_rfl) ?_ _
              go_wp2
              go_meet
              exact ⟨rfl, HB.out.1, HB.out.2⟩
            · have hsm : Hid (sameB c1 v1 c2 v2 = leqB c2 v2 c1 v1) := Lib.hid (by rw [← han.out, hab]; simp)
              have HAB := Lib.hid hab
              clear hab
              have HF := Lib.hid trivial
              generalize hba : leqB c2 v2 c1 v1 = ba at *
              have HBA := Lib.hid hba
              clear hba
              have HB := Lib.hid (And.intro T4.out.drew X4.out.drew)
              go_region_held3 (fun w' => w'.cell? ⟨w.heap.size, 0, none⟩ = some (.int .i64 c1) ∧ w'.cell? ⟨w.heap.size, 1, none⟩ = some (.slice A1 v1.length cap1) ∧ w'.cell? ⟨w.heap.size + 1, 0, none⟩ = some (.int .i64 c2) ∧ w'.cell? ⟨w.heap.size + 1, 1, none⟩ = some (.slice A2 v2.length cap2))
                (first | exact ⟨HB.out.1.at1.cells.1, HB.out.1.at1.cells.2, HB.out.1.at2.cells.1, HB.out.1.at2.cells.2⟩)
                (first
                | (go_at_call 26; have HF2 := HF.out; refine (leq_any c1 A1 cap1 v1 c2 A2 cap2 v2 _ _ HB.out.1.va1 HB.out.1.va2 (Nat.le_refl _)).mono ?_; rw [HAB.out]; rintro e w7 ⟨rfl, hb7⟩; have HB := Lib.hid (And.intro (HB.out.1.next hb7) (HB.out.2.next hb7)); clear hb7 HF HF2)
                | (go_at_call 26; refine (leq_any c2 A2 cap2 v2 c1 A1 cap1 v1 _ _ HB.out.1.va2 HB.out.1.va1 (Nat.le_refl _)).mono ?_; rw [HBA.out]; rintro e w7 ⟨rfl, hb7⟩; have HB := Lib.hid (And.intro (HB.out.1.next hb7) (HB.out.2.next hb7)); clear hb7)
                | (go_at_call 28; refine (same_any c1 A1 cap1 v1 c2 A2 cap2 v2 _ _ HB.out.1.va1 HB.out.1.va2 (Nat.le_refl _)).mono ?_; rw [hsm.out]; rintro e w7 ⟨rfl, hb7⟩; have HB := Lib.hid (And.intro (HB.out.1.next hb7) (HB.out.2.next hb7)); clear hb7))
              all_goals
                go_wp2
                go_meet
                exact ⟨rfl, HB.out.1, HB.out.2⟩
          case rest =>
            obtain ⟨rfl, T5, X5⟩ := hcut
            have HT5 := Lib.hid T5
            have HX5 := Lib.hid X5
            clear T4 X4 x0 x1 y0 y1 z0 z1 T5 X5
            obtain ⟨x0, x1⟩ := HT5.out.at1.cells
            obtain ⟨y0, y1⟩ := HT5.out.at2.cells
            have hmx : maxC c1 v1 c2 v2 = mxC c1 v1 c2 v2 ∧ maxV c1 v1 c2 v2 = mg v1 v2 ∧ maxE c1 v1 c2 v2 = 0 := by
              have hok : maxOk c1 v1 c2 v2 = true := by simp [maxOk, H1.out, H2.out]
              simp [maxC, maxV, maxE, hok, mxC]
            have hmax := max_any c1 A1 cap1 v1 c2 A2 cap2 v2 _ _ HT5.out.va1 HT5.out.va2 (Nat.le_refl _) (by omega)
            rw [hmx.1, hmx.2.1, hmx.2.2] at hmax
            have HMX := Lib.hid hmax
            clear hmax hmx
            go_wp2_with fail
            refine HMX.out.mono ?_
            rintro e w6 ⟨A6, cap6, rfl, hv6, hb6⟩
            have T6 := Lib.hid (HT5.out.next hb6)
            have X6 := Lib.hid (HX5.out.next hb6)
            have M6 := Lib.hid hv6
            clear hb6 hv6 HT5 HX5 HMX x0 x1 y0 y1
            have e1 := Lib.hid (leq_max1 H1.out H2.out)
            have e2 := Lib.hid (leq_max2 H1.out H2.out)
            have e3 := Lib.hid (max_leq H1.out H2.out H3.out)
            generalize mxC c1 v1 c2 v2 = cm at *
            generalize mg v1 v2 = vm at *
            go_wp2_with fail
            have T7 := Lib.hid (T6.out.next ((Below.refl w6.heap.size w6).alloc (Nat.le_refl _) (.cells #[.int .i64 cm, .slice A6 vm.length cap6] 24)))
            have X7 : Hid (TwoLv w (w6.alloc (.cells #[.int .i64 cm, .slice A6 vm.length cap6] 24)) (w.heap.size + 1 + 1) c3 A3 cap3 v3 w6.heap.size cm A6 cap6 vm) := Lib.hid (by
              have h9 := X6.out.next ((Below.refl w6.heap.size w6).alloc (Nat.le_refl _) (.cells #[.int .i64 cm, .slice A6 vm.length cap6] 24))
              exact ⟨h9.va1, M6.out.box, h9.pow, h9.below, h9.at1, LvAt.new w6 cm A6 vm.length cap6⟩)
            have HB := Lib.hid (And.intro T7.out.drew X7.out.drew)
            clear T6 X6 M6 T7 X7
            rcases hac : leqB c1 v1 c3 v3 with _ | _
            · have EM : Hid (leqB cm vm c3 v3 = false) := Lib.hid (by rw [e3.out, hac]; rfl)
              have HAC := Lib.hid hac
              clear hac e3
              refine wp_region_held_drew (S := fun w' => w'.cell? ⟨w.heap.size, 0, none⟩ = some (.int .i64 c1) ∧ w'.cell? ⟨w.heap.size, 1, none⟩ = some (.slice A1 v1.length cap1) ∧ w'.cell? ⟨w.heap.size + 1, 0, none⟩ = some (.int .i64 c2) ∧ w'.cell? ⟨w.heap.size + 1, 1, none⟩ = some (.slice A2 v2.length cap2) ∧ w'.cell? ⟨w.heap.size + 1 + 1, 0, none⟩ = some (.int .i64 c3) ∧ w'.cell? ⟨w.heap.size + 1 + 1, 1, none⟩ = some (.slice A3 v3.length cap3) ∧ w'.cell? ⟨w6.heap.size, 0, none⟩ = some (.int .i64 cm) ∧ w'.cell? ⟨w6.heap.size, 1, none⟩ = some (.slice A6 vm.length cap6)) (by kernel_rfl) (⟨HB.out.1.at1.cells.1, HB.out.1.at1.cells.2, HB.out.1.at2.cells.1, HB.out.1.at2.cells.2, HB.out.2.at1.cells.1, HB.out.2.at1.cells.2, HB.out.2.at2.cells.1, HB.out.2.at2.cells.2⟩) ?_
              intro hS
              refine wpAnyH_take (i := 0) (oi := { dst := some 49, op := Op.move (Operand.tmp 8), type := 27, pos := "law.go:171", after := #[], guard := none }) (v := .int .i64 0) rfl (by kernel_rfl) (by kernel_rfl) (by kernel_rfl) (fun _ _ _ h => h) (Or.inl ⟨by rfl, ?_⟩) hS ?_
              · intro w9 hSw
                obtain ⟨s0, s1, s2, s3, s4, s5, s6, s7⟩ := hSw
                go_simp
              simp only [Act.put, List.setIfInBounds_toArray, List.set_cons_zero, List.set_cons_succ]
              refine wpAnyH_take (i := 1) (oi := { dst := some 50, op := Op.binOp BinOp.eql 27 (Operand.tmp 49) (Operand.const (Value.int IntKind.i64 0)) 27, type := 4, pos := "law.go:171", after := #[{ on := 0, ground := Ground.data }], guard := none }) (v := .bool true) rfl (by kernel_rfl) (by kernel_rfl) (by kernel_rfl) (fun _ _ _ h => h) (Or.inl ⟨by rfl, ?_⟩) hS ?_
              · intro w9 hSw
                obtain ⟨s0, s1, s2, s3, s4, s5, s6, s7⟩ := hSw
                go_simp
              simp only [Act.put, List.setIfInBounds_toArray, List.set_cons_zero, List.set_cons_succ]
              refine wpAnyH_take (i := 2) (oi := { dst := some 51, op := Op.move (Operand.tmp 50), type := 4, pos := "law.go:171", after := #[{ on := 1, ground := Ground.data }], guard := none }) (v := .bool true) rfl (by kernel_rfl) (by kernel_rfl) (by kernel_rfl) (fun _ _ _ h => h) (Or.inl ⟨by rfl, ?_⟩) hS ?_
              · intro w9 hSw
                obtain ⟨s0, s1, s2, s3, s4, s5, s6, s7⟩ := hSw
                go_simp
              simp only [Act.put, List.setIfInBounds_toArray, List.set_cons_zero, List.set_cons_succ]
              refine wpAnyH_take (i := 3) (oi := { dst := some 52, op := Op.load 24 (Operand.tmp 3), type := 24, pos := "law.go:171", after := #[{ on := 2, ground := Ground.guard }], guard := some (2, true) }) (v := .agg #[.int .i64 c1, .slice A1 v1.length cap1]) rfl (by kernel_rfl) (by kernel_rfl) (by kernel_rfl) (fun _ _ _ h => h) (Or.inl ⟨by rfl, ?_⟩) hS ?_
              · intro w9 hSw
                obtain ⟨s0, s1, s2, s3, s4, s5, s6, s7⟩ := hSw
                go_simp
              simp only [Act.put, List.setIfInBounds_toArray, List.set_cons_zero, List.set_cons_succ]
              refine wpAnyH_take (i := 4) (oi := { dst := some 53, op := Op.load 24 (Operand.tmp 7), type := 24, pos := "law.go:171", after := #[{ on := 2, ground := Ground.guard }], guard := some (2, true) }) (v := .agg #[.int .i64 cm, .slice A6 vm.length cap6]) rfl (by kernel_rfl) (by kernel_rfl) (by kernel_rfl) (fun _ _ _ h => h) (Or.inl ⟨by rfl, ?_⟩) hS ?_
              · intro w9 hSw
                obtain ⟨s0, s1, s2, s3, s4, s5, s6, s7⟩ := hSw
                go_simp
              simp only [Act.put, List.setIfInBounds_toArray, List.set_cons_zero, List.set_cons_succ]
              refine wpAnyH_ready (rs := [5]) (by kernel_rfl) (List.cons_ne_nil _ _) ?_
              refine AllReadyH.cons (o := { dst := some 54, op := Op.call { callee := Callee.value (Operand.func 26), args := #[Operand.tmp 52, Operand.tmp 53], argTypes := #[24, 24] }, type := 4, pos := "law.go:171", after := #[{ on := 3, ground := Ground.data }, { on := 4, ground := Ground.data }, { on := 2, ground := Ground.chain }, { on := 2, ground := Ground.guard }], guard := some (2, true) }) rfl (fun K hK => ?_) AllReadyH.nil
              go_simp
              go_at_call 26
              refine (leq_any c1 A1 cap1 v1 cm A6 cap6 vm _ _ HB.out.1.va1 HB.out.2.va2 (Nat.le_refl _)).mono ?_
              rw [e1.out]
              rintro e w7 ⟨rfl, hb7⟩
              have HB := Lib.hid (And.intro (HB.out.1.next hb7) (HB.out.2.next hb7))
              clear hb7
              try go_simp
              refine hK _ _ (⟨HB.out.1.at1.cells.1, HB.out.1.at1.cells.2, HB.out.1.at2.cells.1, HB.out.1.at2.cells.2, HB.out.2.at1.cells.1, HB.out.2.at1.cells.2, HB.out.2.at2.cells.1, HB.out.2.at2.cells.2⟩) ?_
              clear hS
              intro hS
              clear hK K
              refine wpAnyH_take (i := 6) (oi := { dst := some 55, op := Op.pick (Operand.tmp 51) (Operand.tmp 54) (Operand.const (Value.bool false)), type := 4, pos := "law.go:171", after := #[{ on := 2, ground := Ground.data }, { on := 5, ground := Ground.data }], guard := none }) (v := .bool true) rfl (by kernel_rfl) (by kernel_rfl) (by kernel_rfl) (fun _ _ _ h => h) (Or.inl ⟨by rfl, ?_⟩) hS ?_
              · intro w9 hSw
                obtain ⟨s0, s1, s2, s3, s4, s5, s6, s7⟩ := hSw
                go_simp
              simp only [Act.put, List.setIfInBounds_toArray, List.set_cons_zero, List.set_cons_succ]
              refine wpAnyH_take (i := 7) (oi := { dst := some 56, op := Op.move (Operand.tmp 55), type := 4, pos := "law.go:171", after := #[{ on := 6, ground := Ground.data }, { on := 5, ground := Ground.chain }], guard := none }) (v := .bool true) rfl (by kernel_rfl) (by kernel_rfl) (by kernel_rfl) (fun _ _ _ h => h) (Or.inl ⟨by rfl, ?_⟩) hS ?_
              · intro w9 hSw
                obtain ⟨s0, s1, s2, s3, s4, s5, s6, s7⟩ := hSw
                go_simp
              simp only [Act.put, List.setIfInBounds_toArray, List.set_cons_zero, List.set_cons_succ]
              refine wpAnyH_take (i := 8) (oi := { dst := some 57, op := Op.load 24 (Operand.tmp 4), type := 24, pos := "law.go:171", after := #[{ on := 7, ground := Ground.guard }], guard := some (7, true) }) (v := .agg #[.int .i64 c2, .slice A2 v2.length cap2]) rfl (by kernel_rfl) (by kernel_rfl) (by kernel_rfl) (fun _ _ _ h => h) (Or.inl ⟨by rfl, ?_⟩) hS ?_
              · intro w9 hSw
                obtain ⟨s0, s1, s2, s3, s4, s5, s6, s7⟩ := hSw
                go_simp
              simp only [Act.put, List.setIfInBounds_toArray, List.set_cons_zero, List.set_cons_succ]
              refine wpAnyH_take (i := 9) (oi := { dst := some 58, op := Op.load 24 (Operand.tmp 7), type := 24, pos := "law.go:171", after := #[{ on := 7, ground := Ground.guard }], guard := some (7, true) }) (v := .agg #[.int .i64 cm, .slice A6 vm.length cap6]) rfl (by kernel_rfl) (by kernel_rfl) (by kernel_rfl) (fun _ _ _ h => h) (Or.inl ⟨by rfl, ?_⟩) hS ?_
              · intro w9 hSw
                obtain ⟨s0, s1, s2, s3, s4, s5, s6, s7⟩ := hSw
                go_simp
              simp only [Act.put, List.setIfInBounds_toArray, List.set_cons_zero, List.set_cons_succ]
              refine wpAnyH_ready (rs := [10]) (by kernel_rfl) (List.cons_ne_nil _ _) ?_
              refine AllReadyH.cons (o := { dst := some 59, op := Op.call { callee := Callee.value (Operand.func 26), args := #[Operand.tmp 57, Operand.tmp 58], argTypes := #[24, 24] }, type := 4, pos := "law.go:171", after := #[{ on := 8, ground := Ground.data }, { on := 9, ground := Ground.data }, { on := 7, ground := Ground.chain }, { on := 7, ground := Ground.guard }], guard := some (7, true) }) rfl (fun K hK => ?_) AllReadyH.nil
              go_simp
              go_at_call 26
              refine (leq_any c2 A2 cap2 v2 cm A6 cap6 vm _ _ HB.out.1.va2 HB.out.2.va2 (Nat.le_refl _)).mono ?_
              rw [e2.out]
              rintro e w7 ⟨rfl, hb7⟩
              have HB := Lib.hid (And.intro (HB.out.1.next hb7) (HB.out.2.next hb7))
              clear hb7
              try go_simp
              refine hK _ _ (⟨HB.out.1.at1.cells.1, HB.out.1.at1.cells.2, HB.out.1.at2.cells.1, HB.out.1.at2.cells.2, HB.out.2.at1.cells.1, HB.out.2.at1.cells.2, HB.out.2.at2.cells.1, HB.out.2.at2.cells.2⟩) ?_
              clear hS
              intro hS
              clear hK K
              refine wpAnyH_take (i := 11) (oi := { dst := some 60, op := Op.pick (Operand.tmp 56) (Operand.tmp 59) (Operand.const (Value.bool false)), type := 4, pos := "law.go:171", after := #[{ on := 7, ground := Ground.data }, { on := 10, ground := Ground.data }], guard := none }) (v := .bool true) rfl (by kernel_rfl) (by kernel_rfl) (by kernel_rfl) (fun _ _ _ h => h) (Or.inl ⟨by rfl, ?_⟩) hS ?_
              · intro w9 hSw
                obtain ⟨s0, s1, s2, s3, s4, s5, s6, s7⟩ := hSw
                go_simp
              simp only [Act.put, List.setIfInBounds_toArray, List.set_cons_zero, List.set_cons_succ]
              refine wpAnyH_take (i := 12) (oi := { dst := some 61, op := Op.move (Operand.tmp 60), type := 4, pos := "law.go:171", after := #[{ on := 11, ground := Ground.data }, { on := 10, ground := Ground.chain }], guard := none }) (v := .bool true) rfl (by kernel_rfl) (by kernel_rfl) (by kernel_rfl) (fun _ _ _ h => h) (Or.inl ⟨by rfl, ?_⟩) hS ?_
              · intro w9 hSw
                obtain ⟨s0, s1, s2, s3, s4, s5, s6, s7⟩ := hSw
                go_simp
              simp only [Act.put, List.setIfInBounds_toArray, List.set_cons_zero, List.set_cons_succ]
              refine wpAnyH_take (i := 13) (oi := { dst := some 62, op := Op.load 24 (Operand.tmp 7), type := 24, pos := "law.go:171", after := #[{ on := 12, ground := Ground.guard }], guard := some (12, true) }) (v := .agg #[.int .i64 cm, .slice A6 vm.length cap6]) rfl (by kernel_rfl) (by kernel_rfl) (by kernel_rfl) (fun _ _ _ h => h) (Or.inl ⟨by rfl, ?_⟩) hS ?_
              · intro w9 hSw
                obtain ⟨s0, s1, s2, s3, s4, s5, s6, s7⟩ := hSw
                go_simp
              simp only [Act.put, List.setIfInBounds_toArray, List.set_cons_zero, List.set_cons_succ]
              refine wpAnyH_take (i := 14) (oi := { dst := some 63, op := Op.load 24 (Operand.tmp 5), type := 24, pos := "law.go:171", after := #[{ on := 12, ground := Ground.guard }], guard := some (12, true) }) (v := .agg #[.int .i64 c3, .slice A3 v3.length cap3]) rfl (by kernel_rfl) (by kernel_rfl) (by kernel_rfl) (fun _ _ _ h => h) (Or.inl ⟨by rfl, ?_⟩) hS ?_
              · intro w9 hSw
                obtain ⟨s0, s1, s2, s3, s4, s5, s6, s7⟩ := hSw
                go_simp
              simp only [Act.put, List.setIfInBounds_toArray, List.set_cons_zero, List.set_cons_succ]
              refine wpAnyH_take (i := 16) (oi := { dst := some 65, op := Op.load 24 (Operand.tmp 3), type := 24, pos := "law.go:171", after := #[{ on := 12, ground := Ground.guard }], guard := some (12, true) }) (v := .agg #[.int .i64 c1, .slice A1 v1.length cap1]) rfl (by kernel_rfl) (by kernel_rfl) (by kernel_rfl) (fun _ _ _ h => h) (Or.inl ⟨by rfl, ?_⟩) hS ?_
              · intro w9 hSw
                obtain ⟨s0, s1, s2, s3, s4, s5, s6, s7⟩ := hSw
                go_simp
              simp only [Act.put, List.setIfInBounds_toArray, List.set_cons_zero, List.set_cons_succ]
              refine wpAnyH_take (i := 17) (oi := { dst := some 66, op := Op.load 24 (Operand.tmp 5), type := 24, pos := "law.go:171", after := #[{ on := 12, ground := Ground.guard }], guard := some (12, true) }) (v := .agg #[.int .i64 c3, .slice A3 v3.length cap3]) rfl (by kernel_rfl) (by kernel_rfl) (by kernel_rfl) (fun _ _ _ h => h) (Or.inl ⟨by rfl, ?_⟩) hS ?_
              · intro w9 hSw
                obtain ⟨s0, s1, s2, s3, s4, s5, s6, s7⟩ := hSw
                go_simp
              simp only [Act.put, List.setIfInBounds_toArray, List.set_cons_zero, List.set_cons_succ]
              refine wpAnyH_ready (rs := [15]) (by kernel_rfl) (List.cons_ne_nil _ _) ?_
              refine AllReadyH.cons (o := { dst := some 64, op := Op.call { callee := Callee.value (Operand.func 26), args := #[Operand.tmp 62, Operand.tmp 63], argTypes := #[24, 24] }, type := 4, pos := "law.go:171", after := #[{ on := 13, ground := Ground.data }, { on := 14, ground := Ground.data }, { on := 12, ground := Ground.chain }, { on := 12, ground := Ground.guard }], guard := some (12, true) }) rfl (fun K hK => ?_) AllReadyH.nil
              go_simp
              go_at_call 26
              refine (leq_any cm A6 cap6 vm c3 A3 cap3 v3 _ _ HB.out.2.va2 HB.out.2.va1 (Nat.le_refl _)).mono ?_
              rw [EM.out]
              rintro e w7 ⟨rfl, hb7⟩
              have HB := Lib.hid (And.intro (HB.out.1.next hb7) (HB.out.2.next hb7))
              clear hb7
              try go_simp
              refine hK _ _ (⟨HB.out.1.at1.cells.1, HB.out.1.at1.cells.2, HB.out.1.at2.cells.1, HB.out.1.at2.cells.2, HB.out.2.at1.cells.1, HB.out.2.at1.cells.2, HB.out.2.at2.cells.1, HB.out.2.at2.cells.2⟩) ?_
              clear hS
              intro hS
              clear hK K
              refine wpAnyH_ready (rs := [18]) (by kernel_rfl) (List.cons_ne_nil _ _) ?_
              refine AllReadyH.cons (o := { dst := some 67, op := Op.call { callee := Callee.value (Operand.func 26), args := #[Operand.tmp 65, Operand.tmp 66], argTypes := #[24, 24] }, type := 4, pos := "law.go:171", after := #[{ on := 16, ground := Ground.data }, { on := 17, ground := Ground.data }, { on := 15, ground := Ground.chain }, { on := 12, ground := Ground.guard }], guard := some (12, true) }) rfl (fun K hK => ?_) AllReadyH.nil
              go_simp
              go_at_call 26
              refine (leq_any c1 A1 cap1 v1 c3 A3 cap3 v3 _ _ HB.out.1.va1 HB.out.2.va1 (Nat.le_refl _)).mono ?_
              rw [HAC.out]
              rintro e w7 ⟨rfl, hb7⟩
              have HB := Lib.hid (And.intro (HB.out.1.next hb7) (HB.out.2.next hb7))
              clear hb7
              try go_simp
              refine hK _ _ (⟨HB.out.1.at1.cells.1, HB.out.1.at1.cells.2, HB.out.1.at2.cells.1, HB.out.1.at2.cells.2, HB.out.2.at1.cells.1, HB.out.2.at1.cells.2, HB.out.2.at2.cells.1, HB.out.2.at2.cells.2⟩) ?_
              clear hS
              intro hS
              clear hK K
              refine wpAnyH_take (i := 19) (oi := { dst := some 68, op := Op.move (Operand.tmp 67), type := 4, pos := "law.go:171", after := #[{ on := 18, ground := Ground.data }, { on := 18, ground := Ground.chain }, { on := 12, ground := Ground.guard }], guard := some (12, true) }) (v := .bool false) rfl (by kernel_rfl) (by kernel_rfl) (by kernel_rfl) (fun _ _ _ h => h) (Or.inl ⟨by rfl, ?_⟩) hS ?_
              · intro w9 hSw
                obtain ⟨s0, s1, s2, s3, s4, s5, s6, s7⟩ := hSw
                go_simp
              simp only [Act.put, List.setIfInBounds_toArray, List.set_cons_zero, List.set_cons_succ]
              refine wpAnyH_take (i := 20) (oi := { dst := some 69, op := Op.load 24 (Operand.tmp 4), type := 24, pos := "law.go:171", after := #[{ on := 19, ground := Ground.guard }], guard := some (19, true) }) (v := undef) rfl (by kernel_rfl) (by kernel_rfl) (by kernel_rfl) (fun _ _ _ h => h) (Or.inr ⟨by rfl, rfl⟩) hS ?_
              simp only [Act.put, List.setIfInBounds_toArray, List.set_cons_zero, List.set_cons_succ]
              refine wpAnyH_take (i := 21) (oi := { dst := some 70, op := Op.load 24 (Operand.tmp 5), type := 24, pos := "law.go:171", after := #[{ on := 19, ground := Ground.guard }], guard := some (19, true) }) (v := undef) rfl (by kernel_rfl) (by kernel_rfl) (by kernel_rfl) (fun _ _ _ h => h) (Or.inr ⟨by rfl, rfl⟩) hS ?_
              simp only [Act.put, List.setIfInBounds_toArray, List.set_cons_zero, List.set_cons_succ]
              refine wpAnyH_take (i := 22) (oi := { dst := some 71, op := Op.call { callee := Callee.value (Operand.func 26), args := #[Operand.tmp 69, Operand.tmp 70], argTypes := #[24, 24] }, type := 4, pos := "law.go:171", after := #[{ on := 20, ground := Ground.data }, { on := 21, ground := Ground.data }, { on := 19, ground := Ground.chain }, { on := 19, ground := Ground.guard }], guard := some (19, true) }) (v := undef) rfl (by kernel_rfl) (by kernel_rfl) (by kernel_rfl) (fun _ _ _ h => h) (Or.inr ⟨by rfl, rfl⟩) hS ?_
              simp only [Act.put, List.setIfInBounds_toArray, List.set_cons_zero, List.set_cons_succ]
              refine wpAnyH_take (i := 23) (oi := { dst := some 72, op := Op.pick (Operand.tmp 68) (Operand.tmp 71) (Operand.const (Value.bool false)), type := 4, pos := "law.go:171", after := #[{ on := 19, ground := Ground.data }, { on := 22, ground := Ground.data }, { on := 12, ground := Ground.guard }], guard := some (12, true) }) (v := .bool false) rfl (by kernel_rfl) (by kernel_rfl) (by kernel_rfl) (fun _ _ _ h => h) (Or.inl ⟨by rfl, ?_⟩) hS ?_
              · intro w9 hSw
                obtain ⟨s0, s1, s2, s3, s4, s5, s6, s7⟩ := hSw
                go_simp
              simp only [Act.put, List.setIfInBounds_toArray, List.set_cons_zero, List.set_cons_succ]
              refine wpAnyH_take (i := 24) (oi := { dst := some 73, op := Op.binOp BinOp.eql 4 (Operand.tmp 64) (Operand.tmp 72) 4, type := 4, pos := "law.go:171", after := #[{ on := 15, ground := Ground.data }, { on := 23, ground := Ground.data }, { on := 12, ground := Ground.guard }], guard := some (12, true) }) (v := .bool true) rfl (by kernel_rfl) (by kernel_rfl) (by kernel_rfl) (fun _ _ _ h => h) (Or.inl ⟨by rfl, ?_⟩) hS ?_
              · intro w9 hSw
                obtain ⟨s0, s1, s2, s3, s4, s5, s6, s7⟩ := hSw
                go_simp
              simp only [Act.put, List.setIfInBounds_toArray, List.set_cons_zero, List.set_cons_succ]
              refine wpAnyH_take (i := 25) (oi := { dst := some 74, op := Op.pick (Operand.tmp 61) (Operand.tmp 73) (Operand.const (Value.bool false)), type := 4, pos := "law.go:171", after := #[{ on := 12, ground := Ground.data }, { on := 24, ground := Ground.data }], guard := none }) (v := .bool true) rfl (by kernel_rfl) (by kernel_rfl) (by kernel_rfl) (fun _ _ _ h => h) (Or.inl ⟨by rfl, ?_⟩) hS ?_
              · intro w9 hSw
                obtain ⟨s0, s1, s2, s3, s4, s5, s6, s7⟩ := hSw
                go_simp
              simp only [Act.put, List.setIfInBounds_toArray, List.set_cons_zero, List.set_cons_succ]
              refine wpAnyH_take (i := 26) (oi := { dst := some 75, op := Op.move (Operand.tmp 74), type := 4, pos := "law.go:171", after := #[{ on := 25, ground := Ground.data }, { on := 22, ground := Ground.chain }], guard := none }) (v := .bool true) rfl (by kernel_rfl) (by kernel_rfl) (by kernel_rfl) (fun _ _ _ h => h) (Or.inl ⟨by rfl, ?_⟩) hS ?_
              · intro w9 hSw
                obtain ⟨s0, s1, s2, s3, s4, s5, s6, s7⟩ := hSw
                go_simp
              simp only [Act.put, List.setIfInBounds_toArray, List.set_cons_zero, List.set_cons_succ]
              refine wpAnyH_ready (rs := [27]) (by kernel_rfl) (List.cons_ne_nil _ _) ?_
              refine AllReadyH.cons (o := { dst := some 76, op := Op.call { callee := Callee.value (Operand.func 14), args := #[], argTypes := #[] }, type := 4, pos := "law.go:171", after := #[{ on := 26, ground := Ground.chain }, { on := 26, ground := Ground.guard }], guard := some (26, true) }) rfl (fun K hK => ?_) AllReadyH.nil
              go_simp
              go_at_call 14
              refine (awake_any _ HB.out.1.pow).mono ?_
              rintro e w7 ⟨rfl, hb7⟩
              have HB := Lib.hid (And.intro (HB.out.1.next hb7) (HB.out.2.next hb7))
              clear hb7
              try go_simp
              refine hK _ _ (⟨HB.out.1.at1.cells.1, HB.out.1.at1.cells.2, HB.out.1.at2.cells.1, HB.out.1.at2.cells.2, HB.out.2.at1.cells.1, HB.out.2.at1.cells.2, HB.out.2.at2.cells.1, HB.out.2.at2.cells.2⟩) ?_
              clear hS
              intro hS
              clear hK K
              refine wpAnyH_take (i := 28) (oi := { dst := some 77, op := Op.pick (Operand.tmp 75) (Operand.tmp 76) (Operand.const (Value.bool false)), type := 4, pos := "law.go:171", after := #[{ on := 26, ground := Ground.data }, { on := 27, ground := Ground.data }], guard := none }) (v := .bool true) rfl (by kernel_rfl) (by kernel_rfl) (by kernel_rfl) (fun _ _ _ h => h) (Or.inl ⟨by rfl, ?_⟩) hS ?_
              · intro w9 hSw
                obtain ⟨s0, s1, s2, s3, s4, s5, s6, s7⟩ := hSw
                go_simp
              simp only [Act.put, List.setIfInBounds_toArray, List.set_cons_zero, List.set_cons_succ]
              refine wpAnyH_take (i := 29) (oi := { dst := some 6, op := Op.assign (Operand.tmp 77), type := 4, pos := "law.go:171", after := #[{ on := 28, ground := Ground.data }, { on := 27, ground := Ground.chain }, { on := 0, ground := Ground.phase }, { on := 1, ground := Ground.phase }, { on := 2, ground := Ground.phase }, { on := 3, ground := Ground.phase }, { on := 4, ground := Ground.phase }, { on := 5, ground := Ground.phase }, { on := 6, ground := Ground.phase }, { on := 7, ground := Ground.phase }, { on := 8, ground := Ground.phase }, { on := 9, ground := Ground.phase }, { on := 10, ground := Ground.phase }, { on := 11, ground := Ground.phase }, { on := 12, ground := Ground.phase }, { on := 13, ground := Ground.phase }, { on := 14, ground := Ground.phase }, { on := 15, ground := Ground.phase }, { on := 16, ground := Ground.phase }, { on := 17, ground := Ground.phase }, { on := 18, ground := Ground.phase }, { on := 19, ground := Ground.phase }, { on := 20, ground := Ground.phase }, { on := 21, ground := Ground.phase }, { on := 22, ground := Ground.phase }, { on := 23, ground := Ground.phase }, { on := 24, ground := Ground.phase }, { on := 25, ground := Ground.phase }, { on := 26, ground := Ground.phase }, { on := 27, ground := Ground.phase }, { on := 28, ground := Ground.phase }], guard := none }) (v := .bool true) rfl (by kernel_rfl) (by kernel_rfl) (by kernel_rfl) (fun _ _ _ h => h) (Or.inl ⟨by rfl, ?_⟩) hS ?_
              · intro w9 hSw
                obtain ⟨s0, s1, s2, s3, s4, s5, s6, s7⟩ := hSw
                go_simp
              simp only [Act.put, List.setIfInBounds_toArray, List.set_cons_zero, List.set_cons_succ]
              refine wpAnyH_done (by kernel_rfl) ?_ _
              go_wp2
              go_ret
              exact ⟨rfl, HB.out.1.below⟩
            · obtain ⟨bc, hbc⟩ : ∃ bc, leqB c2 v2 c3 v3 = bc := ⟨_, rfl⟩
              have EM : Hid (leqB cm vm c3 v3 = bc) := Lib.hid (by rw [e3.out, hac, hbc]; simp)
              have HAC := Lib.hid hac
              have HBC := Lib.hid hbc
              clear hac hbc e3
              refine wp_region_held_drew (S := fun w' => w'.cell? ⟨w.heap.size, 0, none⟩ = some (.int .i64 c1) ∧ w'.cell? ⟨w.heap.size, 1, none⟩ = some (.slice A1 v1.length cap1) ∧ w'.cell? ⟨w.heap.size + 1, 0, none⟩ = some (.int .i64 c2) ∧ w'.cell? ⟨w.heap.size + 1, 1, none⟩ = some (.slice A2 v2.length cap2) ∧ w'.cell? ⟨w.heap.size + 1 + 1, 0, none⟩ = some (.int .i64 c3) ∧ w'.cell? ⟨w.heap.size + 1 + 1, 1, none⟩ = some (.slice A3 v3.length cap3) ∧ w'.cell? ⟨w6.heap.size, 0, none⟩ = some (.int .i64 cm) ∧ w'.cell? ⟨w6.heap.size, 1, none⟩ = some (.slice A6 vm.length cap6)) (by kernel_rfl) (⟨HB.out.1.at1.cells.1, HB.out.1.at1.cells.2, HB.out.1.at2.cells.1, HB.out.1.at2.cells.2, HB.out.2.at1.cells.1, HB.out.2.at1.cells.2, HB.out.2.at2.cells.1, HB.out.2.at2.cells.2⟩) ?_
              intro hS
              refine wpAnyH_take (i := 0) (oi := { dst := some 49, op := Op.move (Operand.tmp 8), type := 27, pos := "law.go:171", after := #[], guard := none }) (v := .int .i64 0) rfl (by kernel_rfl) (by kernel_rfl) (by kernel_rfl) (fun _ _ _ h => h) (Or.inl ⟨by rfl, ?_⟩) hS ?_
              · intro w9 hSw
                obtain ⟨s0, s1, s2, s3, s4, s5, s6, s7⟩ := hSw
                go_simp
              simp only [Act.put, List.setIfInBounds_toArray, List.set_cons_zero, List.set_cons_succ]
              refine wpAnyH_take (i := 1) (oi := { dst := some 50, op := Op.binOp BinOp.eql 27 (Operand.tmp 49) (Operand.const (Value.int IntKind.i64 0)) 27, type := 4, pos := "law.go:171", after := #[{ on := 0, ground := Ground.data }], guard := none }) (v := .bool true) rfl (by kernel_rfl) (by kernel_rfl) (by kernel_rfl) (fun _ _ _ h => h) (Or.inl ⟨by rfl, ?_⟩) hS ?_
              · intro w9 hSw
                obtain ⟨s0, s1, s2, s3, s4, s5, s6, s7⟩ := hSw
                go_simp
              simp only [Act.put, List.setIfInBounds_toArray, List.set_cons_zero, List.set_cons_succ]
              refine wpAnyH_take (i := 2) (oi := { dst := some 51, op := Op.move (Operand.tmp 50), type := 4, pos := "law.go:171", after := #[{ on := 1, ground := Ground.data }], guard := none }) (v := .bool true) rfl (by kernel_rfl) (by kernel_rfl) (by kernel_rfl) (fun _ _ _ h => h) (Or.inl ⟨by rfl, ?_⟩) hS ?_
              · intro w9 hSw
                obtain ⟨s0, s1, s2, s3, s4, s5, s6, s7⟩ := hSw
                go_simp
              simp only [Act.put, List.setIfInBounds_toArray, List.set_cons_zero, List.set_cons_succ]
              refine wpAnyH_take (i := 3) (oi := { dst := some 52, op := Op.load 24 (Operand.tmp 3), type := 24, pos := "law.go:171", after := #[{ on := 2, ground := Ground.guard }], guard := some (2, true) }) (v := .agg #[.int .i64 c1, .slice A1 v1.length cap1]) rfl (by kernel_rfl) (by kernel_rfl) (by kernel_rfl) (fun _ _ _ h => h) (Or.inl ⟨by rfl, ?_⟩) hS ?_
              · intro w9 hSw
                obtain ⟨s0, s1, s2, s3, s4, s5, s6, s7⟩ := hSw
                go_simp
              simp only [Act.put, List.setIfInBounds_toArray, List.set_cons_zero, List.set_cons_succ]
              refine wpAnyH_take (i := 4) (oi := { dst := some 53, op := Op.load 24 (Operand.tmp 7), type := 24, pos := "law.go:171", after := #[{ on := 2, ground := Ground.guard }], guard := some (2, true) }) (v := .agg #[.int .i64 cm, .slice A6 vm.length cap6]) rfl (by kernel_rfl) (by kernel_rfl) (by kernel_rfl) (fun _ _ _ h => h) (Or.inl ⟨by rfl, ?_⟩) hS ?_
              · intro w9 hSw
                obtain ⟨s0, s1, s2, s3, s4, s5, s6, s7⟩ := hSw
                go_simp
              simp only [Act.put, List.setIfInBounds_toArray, List.set_cons_zero, List.set_cons_succ]
              refine wpAnyH_ready (rs := [5]) (by kernel_rfl) (List.cons_ne_nil _ _) ?_
              refine AllReadyH.cons (o := { dst := some 54, op := Op.call { callee := Callee.value (Operand.func 26), args := #[Operand.tmp 52, Operand.tmp 53], argTypes := #[24, 24] }, type := 4, pos := "law.go:171", after := #[{ on := 3, ground := Ground.data }, { on := 4, ground := Ground.data }, { on := 2, ground := Ground.chain }, { on := 2, ground := Ground.guard }], guard := some (2, true) }) rfl (fun K hK => ?_) AllReadyH.nil
              go_simp
              go_at_call 26
              refine (leq_any c1 A1 cap1 v1 cm A6 cap6 vm _ _ HB.out.1.va1 HB.out.2.va2 (Nat.le_refl _)).mono ?_
              rw [e1.out]
              rintro e w7 ⟨rfl, hb7⟩
              have HB := Lib.hid (And.intro (HB.out.1.next hb7) (HB.out.2.next hb7))
              clear hb7
              try go_simp
              refine hK _ _ (⟨HB.out.1.at1.cells.1, HB.out.1.at1.cells.2, HB.out.1.at2.cells.1, HB.out.1.at2.cells.2, HB.out.2.at1.cells.1, HB.out.2.at1.cells.2, HB.out.2.at2.cells.1, HB.out.2.at2.cells.2⟩) ?_
              clear hS
              intro hS
              clear hK K
              refine wpAnyH_take (i := 6) (oi := { dst := some 55, op := Op.pick (Operand.tmp 51) (Operand.tmp 54) (Operand.const (Value.bool false)), type := 4, pos := "law.go:171", after := #[{ on := 2, ground := Ground.data }, { on := 5, ground := Ground.data }], guard := none }) (v := .bool true) rfl (by kernel_rfl) (by kernel_rfl) (by kernel_rfl) (fun _ _ _ h => h) (Or.inl ⟨by rfl, ?_⟩) hS ?_
              · intro w9 hSw
                obtain ⟨s0, s1, s2, s3, s4, s5, s6, s7⟩ := hSw
                go_simp
              simp only [Act.put, List.setIfInBounds_toArray, List.set_cons_zero, List.set_cons_succ]
              refine wpAnyH_take (i := 7) (oi := { dst := some 56, op := Op.move (Operand.tmp 55), type := 4, pos := "law.go:171", after := #[{ on := 6, ground := Ground.data }, { on := 5, ground := Ground.chain }], guard := none }) (v := .bool true) rfl (by kernel_rfl) (by kernel_rfl) (by kernel_rfl) (fun _ _ _ h => h) (Or.inl ⟨by rfl, ?_⟩) hS ?_
              · intro w9 hSw
                obtain ⟨s0, s1, s2, s3, s4, s5, s6, s7⟩ := hSw
                go_simp
              simp only [Act.put, List.setIfInBounds_toArray, List.set_cons_zero, List.set_cons_succ]
              refine wpAnyH_take (i := 8) (oi := { dst := some 57, op := Op.load 24 (Operand.tmp 4), type := 24, pos := "law.go:171", after := #[{ on := 7, ground := Ground.guard }], guard := some (7, true) }) (v := .agg #[.int .i64 c2, .slice A2 v2.length cap2]) rfl (by kernel_rfl) (by kernel_rfl) (by kernel_rfl) (fun _ _ _ h => h) (Or.inl ⟨by rfl, ?_⟩) hS ?_
              · intro w9 hSw
                obtain ⟨s0, s1, s2, s3, s4, s5, s6, s7⟩ := hSw
                go_simp
              simp only [Act.put, List.setIfInBounds_toArray, List.set_cons_zero, List.set_cons_succ]
              refine wpAnyH_take (i := 9) (oi := { dst := some 58, op := Op.load 24 (Operand.tmp 7), type := 24, pos := "law.go:171", after := #[{ on := 7, ground := Ground.guard }], guard := some (7, true) }) (v := .agg #[.int .i64 cm, .slice A6 vm.length cap6]) rfl (by kernel_rfl) (by kernel_rfl) (by kernel_rfl) (fun _ _ _ h => h) (Or.inl ⟨by rfl, ?_⟩) hS ?_
              · intro w9 hSw
                obtain ⟨s0, s1, s2, s3, s4, s5, s6, s7⟩ := hSw
                go_simp
              simp only [Act.put, List.setIfInBounds_toArray, List.set_cons_zero, List.set_cons_succ]
              refine wpAnyH_ready (rs := [10]) (by kernel_rfl) (List.cons_ne_nil _ _) ?_
              refine AllReadyH.cons (o := { dst := some 59, op := Op.call { callee := Callee.value (Operand.func 26), args := #[Operand.tmp 57, Operand.tmp 58], argTypes := #[24, 24] }, type := 4, pos := "law.go:171", after := #[{ on := 8, ground := Ground.data }, { on := 9, ground := Ground.data }, { on := 7, ground := Ground.chain }, { on := 7, ground := Ground.guard }], guard := some (7, true) }) rfl (fun K hK => ?_) AllReadyH.nil
              go_simp
              go_at_call 26
              refine (leq_any c2 A2 cap2 v2 cm A6 cap6 vm _ _ HB.out.1.va2 HB.out.2.va2 (Nat.le_refl _)).mono ?_
              rw [e2.out]
              rintro e w7 ⟨rfl, hb7⟩
              have HB := Lib.hid (And.intro (HB.out.1.next hb7) (HB.out.2.next hb7))
              clear hb7
              try go_simp
              refine hK _ _ (⟨HB.out.1.at1.cells.1, HB.out.1.at1.cells.2, HB.out.1.at2.cells.1, HB.out.1.at2.cells.2, HB.out.2.at1.cells.1, HB.out.2.at1.cells.2, HB.out.2.at2.cells.1, HB.out.2.at2.cells.2⟩) ?_
              clear hS
              intro hS
              clear hK K
              refine wpAnyH_take (i := 11) (oi := { dst := some 60, op := Op.pick (Operand.tmp 56) (Operand.tmp 59) (Operand.const (Value.bool false)), type := 4, pos := "law.go:171", after := #[{ on := 7, ground := Ground.data }, { on := 10, ground := Ground.data }], guard := none }) (v := .bool true) rfl (by kernel_rfl) (by kernel_rfl) (by kernel_rfl) (fun _ _ _ h => h) (Or.inl ⟨by rfl, ?_⟩) hS ?_
              · intro w9 hSw
                obtain ⟨s0, s1, s2, s3, s4, s5, s6, s7⟩ := hSw
                go_simp
              simp only [Act.put, List.setIfInBounds_toArray, List.set_cons_zero, List.set_cons_succ]
              refine wpAnyH_take (i := 12) (oi := { dst := some 61, op := Op.move (Operand.tmp 60), type := 4, pos := "law.go:171", after := #[{ on := 11, ground := Ground.data }, { on := 10, ground := Ground.chain }], guard := none }) (v := .bool true) rfl (by kernel_rfl) (by kernel_rfl) (by kernel_rfl) (fun _ _ _ h => h) (Or.inl ⟨by rfl, ?_⟩) hS ?_
              · intro w9 hSw
                obtain ⟨s0, s1, s2, s3, s4, s5, s6, s7⟩ := hSw
                go_simp
              simp only [Act.put, List.setIfInBounds_toArray, List.set_cons_zero, List.set_cons_succ]
              refine wpAnyH_take (i := 13) (oi := { dst := some 62, op := Op.load 24 (Operand.tmp 7), type := 24, pos := "law.go:171", after := #[{ on := 12, ground := Ground.guard }], guard := some (12, true) }) (v := .agg #[.int .i64 cm, .slice A6 vm.length cap6]) rfl (by kernel_rfl) (by kernel_rfl) (by kernel_rfl) (fun _ _ _ h => h) (Or.inl ⟨by rfl, ?_⟩) hS ?_
              · intro w9 hSw
                obtain ⟨s0, s1, s2, s3, s4, s5, s6, s7⟩ := hSw
                go_simp
              simp only [Act.put, List.setIfInBounds_toArray, List.set_cons_zero, List.set_cons_succ]
              refine wpAnyH_take (i := 14) (oi := { dst := some 63, op := Op.load 24 (Operand.tmp 5), type := 24, pos := "law.go:171", after := #[{ on := 12, ground := Ground.guard }], guard := some (12, true) }) (v := .agg #[.int .i64 c3, .slice A3 v3.length cap3]) rfl (by kernel_rfl) (by kernel_rfl) (by kernel_rfl) (fun _ _ _ h => h) (Or.inl ⟨by rfl, ?_⟩) hS ?_
              · intro w9 hSw
                obtain ⟨s0, s1, s2, s3, s4, s5, s6, s7⟩ := hSw
                go_simp
              simp only [Act.put, List.setIfInBounds_toArray, List.set_cons_zero, List.set_cons_succ]
              refine wpAnyH_take (i := 16) (oi := { dst := some 65, op := Op.load 24 (Operand.tmp 3), type := 24, pos := "law.go:171", after := #[{ on := 12, ground := Ground.guard }], guard := some (12, true) }) (v := .agg #[.int .i64 c1, .slice A1 v1.length cap1]) rfl (by kernel_rfl) (by kernel_rfl) (by kernel_rfl) (fun _ _ _ h => h) (Or.inl ⟨by rfl, ?_⟩) hS ?_
              · intro w9 hSw
                obtain ⟨s0, s1, s2, s3, s4, s5, s6, s7⟩ := hSw
                go_simp
              simp only [Act.put, List.setIfInBounds_toArray, List.set_cons_zero, List.set_cons_succ]
              refine wpAnyH_take (i := 17) (oi := { dst := some 66, op := Op.load 24 (Operand.tmp 5), type := 24, pos := "law.go:171", after := #[{ on := 12, ground := Ground.guard }], guard := some (12, true) }) (v := .agg #[.int .i64 c3, .slice A3 v3.length cap3]) rfl (by kernel_rfl) (by kernel_rfl) (by kernel_rfl) (fun _ _ _ h => h) (Or.inl ⟨by rfl, ?_⟩) hS ?_
              · intro w9 hSw
                obtain ⟨s0, s1, s2, s3, s4, s5, s6, s7⟩ := hSw
                go_simp
              simp only [Act.put, List.setIfInBounds_toArray, List.set_cons_zero, List.set_cons_succ]
              refine wpAnyH_ready (rs := [15]) (by kernel_rfl) (List.cons_ne_nil _ _) ?_
              refine AllReadyH.cons (o := { dst := some 64, op := Op.call { callee := Callee.value (Operand.func 26), args := #[Operand.tmp 62, Operand.tmp 63], argTypes := #[24, 24] }, type := 4, pos := "law.go:171", after := #[{ on := 13, ground := Ground.data }, { on := 14, ground := Ground.data }, { on := 12, ground := Ground.chain }, { on := 12, ground := Ground.guard }], guard := some (12, true) }) rfl (fun K hK => ?_) AllReadyH.nil
              go_simp
              go_at_call 26
              refine (leq_any cm A6 cap6 vm c3 A3 cap3 v3 _ _ HB.out.2.va2 HB.out.2.va1 (Nat.le_refl _)).mono ?_
              rw [EM.out]
              rintro e w7 ⟨rfl, hb7⟩
              have HB := Lib.hid (And.intro (HB.out.1.next hb7) (HB.out.2.next hb7))
              clear hb7
              try go_simp
              refine hK _ _ (⟨HB.out.1.at1.cells.1, HB.out.1.at1.cells.2, HB.out.1.at2.cells.1, HB.out.1.at2.cells.2, HB.out.2.at1.cells.1, HB.out.2.at1.cells.2, HB.out.2.at2.cells.1, HB.out.2.at2.cells.2⟩) ?_
              clear hS
              intro hS
              clear hK K
              refine wpAnyH_ready (rs := [18]) (by kernel_rfl) (List.cons_ne_nil _ _) ?_
              refine AllReadyH.cons (o := { dst := some 67, op := Op.call { callee := Callee.value (Operand.func 26), args := #[Operand.tmp 65, Operand.tmp 66], argTypes := #[24, 24] }, type := 4, pos := "law.go:171", after := #[{ on := 16, ground := Ground.data }, { on := 17, ground := Ground.data }, { on := 15, ground := Ground.chain }, { on := 12, ground := Ground.guard }], guard := some (12, true) }) rfl (fun K hK => ?_) AllReadyH.nil
              go_simp
              go_at_call 26
              refine (leq_any c1 A1 cap1 v1 c3 A3 cap3 v3 _ _ HB.out.1.va1 HB.out.2.va1 (Nat.le_refl _)).mono ?_
              rw [HAC.out]
              rintro e w7 ⟨rfl, hb7⟩
              have HB := Lib.hid (And.intro (HB.out.1.next hb7) (HB.out.2.next hb7))
              clear hb7
              try go_simp
              refine hK _ _ (⟨HB.out.1.at1.cells.1, HB.out.1.at1.cells.2, HB.out.1.at2.cells.1, HB.out.1.at2.cells.2, HB.out.2.at1.cells.1, HB.out.2.at1.cells.2, HB.out.2.at2.cells.1, HB.out.2.at2.cells.2⟩) ?_
              clear hS
              intro hS
              clear hK K
              refine wpAnyH_take (i := 19) (oi := { dst := some 68, op := Op.move (Operand.tmp 67), type := 4, pos := "law.go:171", after := #[{ on := 18, ground := Ground.data }, { on := 18, ground := Ground.chain }, { on := 12, ground := Ground.guard }], guard := some (12, true) }) (v := .bool true) rfl (by kernel_rfl) (by kernel_rfl) (by kernel_rfl) (fun _ _ _ h => h) (Or.inl ⟨by rfl, ?_⟩) hS ?_
              · intro w9 hSw
                obtain ⟨s0, s1, s2, s3, s4, s5, s6, s7⟩ := hSw
                go_simp
              simp only [Act.put, List.setIfInBounds_toArray, List.set_cons_zero, List.set_cons_succ]
              refine wpAnyH_take (i := 20) (oi := { dst := some 69, op := Op.load 24 (Operand.tmp 4), type := 24, pos := "law.go:171", after := #[{ on := 19, ground := Ground.guard }], guard := some (19, true) }) (v := .agg #[.int .i64 c2, .slice A2 v2.length cap2]) rfl (by kernel_rfl) (by kernel_rfl) (by kernel_rfl) (fun _ _ _ h => h) (Or.inl ⟨by rfl, ?_⟩) hS ?_
              · intro w9 hSw
                obtain ⟨s0, s1, s2, s3, s4, s5, s6, s7⟩ := hSw
                go_simp
              simp only [Act.put, List.setIfInBounds_toArray, List.set_cons_zero, List.set_cons_succ]
              refine wpAnyH_take (i := 21) (oi := { dst := some 70, op := Op.load 24 (Operand.tmp 5), type := 24, pos := "law.go:171", after := #[{ on := 19, ground := Ground.guard }], guard := some (19, true) }) (v := .agg #[.int .i64 c3, .slice A3 v3.length cap3]) rfl (by kernel_rfl) (by kernel_rfl) (by kernel_rfl) (fun _ _ _ h => h) (Or.inl ⟨by rfl, ?_⟩) hS ?_
              · intro w9 hSw
                obtain ⟨s0, s1, s2, s3, s4, s5, s6, s7⟩ := hSw
                go_simp
              simp only [Act.put, List.setIfInBounds_toArray, List.set_cons_zero, List.set_cons_succ]
              refine wpAnyH_ready (rs := [22]) (by kernel_rfl) (List.cons_ne_nil _ _) ?_
              refine AllReadyH.cons (o := { dst := some 71, op := Op.call { callee := Callee.value (Operand.func 26), args := #[Operand.tmp 69, Operand.tmp 70], argTypes := #[24, 24] }, type := 4, pos := "law.go:171", after := #[{ on := 20, ground := Ground.data }, { on := 21, ground := Ground.data }, { on := 19, ground := Ground.chain }, { on := 19, ground := Ground.guard }], guard := some (19, true) }) rfl (fun K hK => ?_) AllReadyH.nil
              go_simp
              go_at_call 26
              refine (leq_any c2 A2 cap2 v2 c3 A3 cap3 v3 _ _ HB.out.1.va2 HB.out.2.va1 (Nat.le_refl _)).mono ?_
              rw [HBC.out]
              rintro e w7 ⟨rfl, hb7⟩
              have HB := Lib.hid (And.intro (HB.out.1.next hb7) (HB.out.2.next hb7))
              clear hb7
              try go_simp
              refine hK _ _ (⟨HB.out.1.at1.cells.1, HB.out.1.at1.cells.2, HB.out.1.at2.cells.1, HB.out.1.at2.cells.2, HB.out.2.at1.cells.1, HB.out.2.at1.cells.2, HB.out.2.at2.cells.1, HB.out.2.at2.cells.2⟩) ?_
              clear hS
              intro hS
              clear hK K
              refine wpAnyH_take (i := 23) (oi := { dst := some 72, op := Op.pick (Operand.tmp 68) (Operand.tmp 71) (Operand.const (Value.bool false)), type := 4, pos := "law.go:171", after := #[{ on := 19, ground := Ground.data }, { on := 22, ground := Ground.data }, { on := 12, ground := Ground.guard }], guard := some (12, true) }) (v := .bool bc) rfl (by kernel_rfl) (by kernel_rfl) (by kernel_rfl) (fun _ _ _ h => h) (Or.inl ⟨by rfl, ?_⟩) hS ?_
              · intro w9 hSw
                obtain ⟨s0, s1, s2, s3, s4, s5, s6, s7⟩ := hSw
                go_simp
              simp only [Act.put, List.setIfInBounds_toArray, List.set_cons_zero, List.set_cons_succ]
              refine wpAnyH_take (i := 24) (oi := { dst := some 73, op := Op.binOp BinOp.eql 4 (Operand.tmp 64) (Operand.tmp 72) 4, type := 4, pos := "law.go:171", after := #[{ on := 15, ground := Ground.data }, { on := 23, ground := Ground.data }, { on := 12, ground := Ground.guard }], guard := some (12, true) }) (v := .bool true) rfl (by kernel_rfl) (by kernel_rfl) (by kernel_rfl) (fun _ _ _ h => h) (Or.inl ⟨by rfl, ?_⟩) hS ?_
              · intro w9 hSw
                obtain ⟨s0, s1, s2, s3, s4, s5, s6, s7⟩ := hSw
                go_simp
              simp only [Act.put, List.setIfInBounds_toArray, List.set_cons_zero, List.set_cons_succ]
              refine wpAnyH_take (i := 25) (oi := { dst := some 74, op := Op.pick (Operand.tmp 61) (Operand.tmp 73) (Operand.const (Value.bool false)), type := 4, pos := "law.go:171", after := #[{ on := 12, ground := Ground.data }, { on := 24, ground := Ground.data }], guard := none }) (v := .bool true) rfl (by kernel_rfl) (by kernel_rfl) (by kernel_rfl) (fun _ _ _ h => h) (Or.inl ⟨by rfl, ?_⟩) hS ?_
              · intro w9 hSw
                obtain ⟨s0, s1, s2, s3, s4, s5, s6, s7⟩ := hSw
                go_simp
              simp only [Act.put, List.setIfInBounds_toArray, List.set_cons_zero, List.set_cons_succ]
              refine wpAnyH_take (i := 26) (oi := { dst := some 75, op := Op.move (Operand.tmp 74), type := 4, pos := "law.go:171", after := #[{ on := 25, ground := Ground.data }, { on := 22, ground := Ground.chain }], guard := none }) (v := .bool true) rfl (by kernel_rfl) (by kernel_rfl) (by kernel_rfl) (fun _ _ _ h => h) (Or.inl ⟨by rfl, ?_⟩) hS ?_
              · intro w9 hSw
                obtain ⟨s0, s1, s2, s3, s4, s5, s6, s7⟩ := hSw
                go_simp
              simp only [Act.put, List.setIfInBounds_toArray, List.set_cons_zero, List.set_cons_succ]
              refine wpAnyH_ready (rs := [27]) (by kernel_rfl) (List.cons_ne_nil _ _) ?_
              refine AllReadyH.cons (o := { dst := some 76, op := Op.call { callee := Callee.value (Operand.func 14), args := #[], argTypes := #[] }, type := 4, pos := "law.go:171", after := #[{ on := 26, ground := Ground.chain }, { on := 26, ground := Ground.guard }], guard := some (26, true) }) rfl (fun K hK => ?_) AllReadyH.nil
              go_simp
              go_at_call 14
              refine (awake_any _ HB.out.1.pow).mono ?_
              rintro e w7 ⟨rfl, hb7⟩
              have HB := Lib.hid (And.intro (HB.out.1.next hb7) (HB.out.2.next hb7))
              clear hb7
              try go_simp
              refine hK _ _ (⟨HB.out.1.at1.cells.1, HB.out.1.at1.cells.2, HB.out.1.at2.cells.1, HB.out.1.at2.cells.2, HB.out.2.at1.cells.1, HB.out.2.at1.cells.2, HB.out.2.at2.cells.1, HB.out.2.at2.cells.2⟩) ?_
              clear hS
              intro hS
              clear hK K
              refine wpAnyH_take (i := 28) (oi := { dst := some 77, op := Op.pick (Operand.tmp 75) (Operand.tmp 76) (Operand.const (Value.bool false)), type := 4, pos := "law.go:171", after := #[{ on := 26, ground := Ground.data }, { on := 27, ground := Ground.data }], guard := none }) (v := .bool true) rfl (by kernel_rfl) (by kernel_rfl) (by kernel_rfl) (fun _ _ _ h => h) (Or.inl ⟨by rfl, ?_⟩) hS ?_
              · intro w9 hSw
                obtain ⟨s0, s1, s2, s3, s4, s5, s6, s7⟩ := hSw
                go_simp
              simp only [Act.put, List.setIfInBounds_toArray, List.set_cons_zero, List.set_cons_succ]
              refine wpAnyH_take (i := 29) (oi := { dst := some 6, op := Op.assign (Operand.tmp 77), type := 4, pos := "law.go:171", after := #[{ on := 28, ground := Ground.data }, { on := 27, ground := Ground.chain }, { on := 0, ground := Ground.phase }, { on := 1, ground := Ground.phase }, { on := 2, ground := Ground.phase }, { on := 3, ground := Ground.phase }, { on := 4, ground := Ground.phase }, { on := 5, ground := Ground.phase }, { on := 6, ground := Ground.phase }, { on := 7, ground := Ground.phase }, { on := 8, ground := Ground.phase }, { on := 9, ground := Ground.phase }, { on := 10, ground := Ground.phase }, { on := 11, ground := Ground.phase }, { on := 12, ground := Ground.phase }, { on := 13, ground := Ground.phase }, { on := 14, ground := Ground.phase }, { on := 15, ground := Ground.phase }, { on := 16, ground := Ground.phase }, { on := 17, ground := Ground.phase }, { on := 18, ground := Ground.phase }, { on := 19, ground := Ground.phase }, { on := 20, ground := Ground.phase }, { on := 21, ground := Ground.phase }, { on := 22, ground := Ground.phase }, { on := 23, ground := Ground.phase }, { on := 24, ground := Ground.phase }, { on := 25, ground := Ground.phase }, { on := 26, ground := Ground.phase }, { on := 27, ground := Ground.phase }, { on := 28, ground := Ground.phase }], guard := none }) (v := .bool true) rfl (by kernel_rfl) (by kernel_rfl) (by kernel_rfl) (fun _ _ _ h => h) (Or.inl ⟨by rfl, ?_⟩) hS ?_
              · intro w9 hSw
                obtain ⟨s0, s1, s2, s3, s4, s5, s6, s7⟩ := hSw
                go_simp
              simp only [Act.put, List.setIfInBounds_toArray, List.set_cons_zero, List.set_cons_succ]
              refine wpAnyH_done (by kernel_rfl) ?_ _
              go_wp2
              go_ret
              exact ⟨rfl, HB.out.1.below⟩
end Go.Proofs.YtpkheelcfkiacaaGreatDoor
