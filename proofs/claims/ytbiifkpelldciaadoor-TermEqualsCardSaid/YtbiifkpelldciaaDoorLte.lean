/- The law TermEquals. -/
import Derived.Test.YtbiifkpelldciaaDoorPsm
import Derived.Test.YtbiifkpelldciaaDoorLch
namespace Go.Proofs.YtbiifkpelldciaaDoor
open Go.RowKit

/-- Two terms in their boxes, and the table. -/
structure TwS (w : World) (B : Nat) (s t : Tm) (c0 c1 c2 c3 c4 e0 e1 e2 e3 e4 : Value) (wx : World) : Prop where
  tw : TwT w B s t c0 c1 c2 c3 c4 e0 e1 e2 e3 e4 wx
  sh : Shapes wx
  pos : 0 < B
theorem TwS.next {w wx wy : World} {B : Nat} {s t : Tm} {c0 c1 c2 c3 c4 e0 e1 e2 e3 e4 : Value} (h : TwS w B s t c0 c1 c2 c3 c4 e0 e1 e2 e3 e4 wx) (hb : Below wx.heap.size wx wy) : TwS w B s t c0 c1 c2 c3 c4 e0 e1 e2 e3 e4 wy :=
  ⟨h.tw.next hb, h.sh.below hb (by have := h.tw.size; have := h.pos; omega), h.pos⟩

set_option maxRecDepth 100000 in
set_option maxHeartbeats 8000000 in
theorem termEquals_any (a b : Tm) (va vb : Value) (w : World) (hva : TmV w w.heap.size a va) (hvb : TmV w w.heap.size b vb) (hsh : Shapes w) (hw : 0 < w.heap.size) : Calls Tryd.prog 5 #[va, vb] w fun e w' => e = .returned (.bool true) ∧ Below w.heap.size w w' := by
  have hva' := hva
  have hvb' := hvb
  obtain ⟨k1, i1, n1, AL1, nl1, cl1, AK1, ck1, rfl, _, _⟩ := hva.open_
  obtain ⟨k2, i2, n2, AL2, nl2, cl2, AK2, ck2, rfl, _, _⟩ := hvb.open_
  have T00 := TwT.start hva' hvb' (Nat.le_refl _)
  have T0 := Lib.hid (TwS.mk T00 (hsh.below T00.below (by omega)) hw)
  clear hva hvb hva' hvb' hsh hw T00
  obtain ⟨x0, x1, x2, x3, x4, y0, y1, y2, y3, y4, _, _, _, _, _⟩ := T0.out.tw
  go_enter Tryd.func5, Tryd.ntmps5
  go_wp2_with fail
  have hl := listed_of T0.out.tw.tm T0.out.tw.size
  simp only [World.size_alloc] at hl
  refine (few_any (szL [a] + 1) [a] (some ⟨w.heap.size + 1 + 1, 0, none⟩) 1 (w.heap.size + 1 + 1 + 1) _ (by omega) (by simp) hl (by simp)).mono ?_
  rintro e w2 ⟨b1, rfl, hb, hf⟩
  have T1 := Lib.hid ((T0.out.next ((Below.refl _ _).alloc (Nat.le_refl _) _)).next hb)
  clear x0 x1 x2 x3 x4 y0 y1 y2 y3 y4 hb hl T0
  cases b1 with
  | false =>
    go_wp2_with fail
    refine (awake_any _ T1.out.sh (by have := T1.out.tw.size; have := T1.out.pos; omega)).mono ?_
    rintro e w3 ⟨rfl, hb3⟩
    have T2 := Lib.hid (T1.out.next hb3)
    clear hb3
    go_wp2_with fail
    go_ret
    exact ⟨rfl, T2.out.tw.below⟩
  | true =>
    have hsz := (hf rfl).sz
    rw [szL, szL, Nat.add_zero] at hsz
    clear hf
    obtain ⟨x0, x1, x2, x3, x4, y0, y1, y2, y3, y4, _, _, _, _, _⟩ := T1.out.tw
    go_wp2_with fail
    have hl := listed_of T1.out.tw.tn T1.out.tw.size
    refine (few_any (szL [b] + 1) [b] (some ⟨w2.heap.size, 0, none⟩) 1 (w2.heap.size + 1) _ (by omega) (by simp) hl (by simp)).mono ?_
    rintro e w3 ⟨b2, rfl, hb, hf⟩
    have T2 := Lib.hid ((T1.out.next ((Below.refl _ _).alloc (Nat.le_refl _) _)).next hb)
    clear x0 x1 x2 x3 x4 y0 y1 y2 y3 y4 hb hl T1
    cases b2 with
    | false =>
      go_wp2_with fail
      refine (awake_any _ T2.out.sh (by have := T2.out.tw.size; have := T2.out.pos; omega)).mono ?_
      rintro e w4 ⟨rfl, hb3⟩
      have T3 := Lib.hid (T2.out.next hb3)
      clear hb3
      go_wp2_with fail
      go_ret
      exact ⟨rfl, T3.out.tw.below⟩
    | true =>
      have hsz2 := (hf rfl).sz
      rw [szL, szL, Nat.add_zero] at hsz2
      clear hf
      have HB := Lib.hid (T2.out.next (wy := w3.drew) ⟨rfl, rfl, rfl, Nat.le_refl _, fun _ _ => rfl⟩)
      obtain ⟨ev, hev⟩ : ∃ ev, sameT a b = ev := ⟨_, rfl⟩
      have HEV := Lib.hid hev
      have HAA := Lib.hid (sameT_self a)
      have HBA := Lib.hid ((sameT_swap b a).trans hev)
      clear T2 hev
      go_wp2_with fail
      refine wp_region_held_drew (S := fun w' => w'.cell? ⟨w.heap.size, 0, none⟩ = some (.int .i64 k1) ∧ w'.cell? ⟨w.heap.size, 1, none⟩ = some (.int .i64 i1) ∧ w'.cell? ⟨w.heap.size, 2, none⟩ = some (.string n1) ∧ w'.cell? ⟨w.heap.size, 3, none⟩ = some (.slice AL1 nl1 cl1) ∧ w'.cell? ⟨w.heap.size, 4, none⟩ = some (.slice AK1 a.kids.length ck1) ∧ w'.cell? ⟨w.heap.size + 1, 0, none⟩ = some (.int .i64 k2) ∧ w'.cell? ⟨w.heap.size + 1, 1, none⟩ = some (.int .i64 i2) ∧ w'.cell? ⟨w.heap.size + 1, 2, none⟩ = some (.string n2) ∧ w'.cell? ⟨w.heap.size + 1, 3, none⟩ = some (.slice AL2 nl2 cl2) ∧ w'.cell? ⟨w.heap.size + 1, 4, none⟩ = some (.slice AK2 b.kids.length ck2)) (by kernel_rfl) (⟨HB.out.tw.x0, HB.out.tw.x1, HB.out.tw.x2, HB.out.tw.x3, HB.out.tw.x4, HB.out.tw.y0, HB.out.tw.y1, HB.out.tw.y2, HB.out.tw.y3, HB.out.tw.y4⟩) ?_
      intro hS
      refine wpAnyH_take (i := 0) (oi := { dst := some 16, op := Op.load 27 (Operand.tmp 2), type := 27, pos := "law.go:77", after := #[], guard := none }) (v := .agg #[.int .i64 k1, .int .i64 i1, .string n1, .slice AL1 nl1 cl1, .slice AK1 a.kids.length ck1]) rfl (by kernel_rfl) (by kernel_rfl) (by kernel_rfl) (fun _ _ _ h => h) (Or.inl ⟨by rfl, ?_⟩) hS ?_
      · intro w9 hSw
        obtain ⟨s0, s1, s2, s3, s4, s5, s6, s7, s8, s9⟩ := hSw
        go_simp
      simp only [Act.put, List.setIfInBounds_toArray, List.set_cons_zero, List.set_cons_succ]
      refine wpAnyH_take (i := 1) (oi := { dst := some 17, op := Op.load 27 (Operand.tmp 3), type := 27, pos := "law.go:77", after := #[], guard := none }) (v := .agg #[.int .i64 k2, .int .i64 i2, .string n2, .slice AL2 nl2 cl2, .slice AK2 b.kids.length ck2]) rfl (by kernel_rfl) (by kernel_rfl) (by kernel_rfl) (fun _ _ _ h => h) (Or.inl ⟨by rfl, ?_⟩) hS ?_
      · intro w9 hSw
        obtain ⟨s0, s1, s2, s3, s4, s5, s6, s7, s8, s9⟩ := hSw
        go_simp
      simp only [Act.put, List.setIfInBounds_toArray, List.set_cons_zero, List.set_cons_succ]
      refine wpAnyH_take (i := 3) (oi := { dst := some 19, op := Op.load 27 (Operand.tmp 2), type := 27, pos := "law.go:77", after := #[], guard := none }) (v := .agg #[.int .i64 k1, .int .i64 i1, .string n1, .slice AL1 nl1 cl1, .slice AK1 a.kids.length ck1]) rfl (by kernel_rfl) (by kernel_rfl) (by kernel_rfl) (fun _ _ _ h => h) (Or.inl ⟨by rfl, ?_⟩) hS ?_
      · intro w9 hSw
        obtain ⟨s0, s1, s2, s3, s4, s5, s6, s7, s8, s9⟩ := hSw
        go_simp
      simp only [Act.put, List.setIfInBounds_toArray, List.set_cons_zero, List.set_cons_succ]
      refine wpAnyH_take (i := 4) (oi := { dst := some 20, op := Op.load 27 (Operand.tmp 3), type := 27, pos := "law.go:77", after := #[], guard := none }) (v := .agg #[.int .i64 k2, .int .i64 i2, .string n2, .slice AL2 nl2 cl2, .slice AK2 b.kids.length ck2]) rfl (by kernel_rfl) (by kernel_rfl) (by kernel_rfl) (fun _ _ _ h => h) (Or.inl ⟨by rfl, ?_⟩) hS ?_
      · intro w9 hSw
        obtain ⟨s0, s1, s2, s3, s4, s5, s6, s7, s8, s9⟩ := hSw
        go_simp
      simp only [Act.put, List.setIfInBounds_toArray, List.set_cons_zero, List.set_cons_succ]
      refine wpAnyH_ready (rs := [2]) (by kernel_rfl) (List.cons_ne_nil _ _) ?_
      refine AllReadyH.cons (o := { dst := some 18, op := Op.call { callee := Callee.value (Operand.func 17), args := #[Operand.tmp 16, Operand.tmp 17], argTypes := #[27, 27] }, type := 4, pos := "law.go:77", after := #[{ on := 0, ground := Ground.data }, { on := 1, ground := Ground.data }], guard := none }) rfl (fun K hK => ?_) AllReadyH.nil
      go_simp
      go_at_call 17
      refine (psame_any a b _ _ w.heap.size _ HB.out.tw.tm HB.out.tw.tn HB.out.tw.size (by omega)).mono ?_
      rw [HEV.out]
      rintro e w7 ⟨rfl, hb7⟩
      have HB := Lib.hid (HB.out.next hb7)
      clear hb7
      try go_simp
      refine hK _ _ (⟨HB.out.tw.x0, HB.out.tw.x1, HB.out.tw.x2, HB.out.tw.x3, HB.out.tw.x4, HB.out.tw.y0, HB.out.tw.y1, HB.out.tw.y2, HB.out.tw.y3, HB.out.tw.y4⟩) ?_
      clear hS
      intro hS
      clear hK K
      refine wpAnyH_ready (rs := [5]) (by kernel_rfl) (List.cons_ne_nil _ _) ?_
      refine AllReadyH.cons (o := { dst := some 21, op := Op.call { callee := Callee.value (Operand.func 18), args := #[Operand.tmp 19, Operand.tmp 20], argTypes := #[27, 27] }, type := 4, pos := "law.go:77", after := #[{ on := 3, ground := Ground.data }, { on := 4, ground := Ground.data }, { on := 2, ground := Ground.chain }], guard := none }) rfl (fun K hK => ?_) AllReadyH.nil
      go_simp
      go_at_call 18
      refine (rsameT_any (szT a) a b _ _ w.heap.size _ (Nat.le_refl _) HB.out.tw.tm HB.out.tw.tn HB.out.tw.size).mono ?_
      rw [HEV.out]
      rintro e w8 ⟨rfl, hb7⟩
      have HB := Lib.hid (HB.out.next hb7)
      clear hb7
      try go_simp
      refine hK _ _ (⟨HB.out.tw.x0, HB.out.tw.x1, HB.out.tw.x2, HB.out.tw.x3, HB.out.tw.x4, HB.out.tw.y0, HB.out.tw.y1, HB.out.tw.y2, HB.out.tw.y3, HB.out.tw.y4⟩) ?_
      clear hS
      intro hS
      clear hK K
      refine wpAnyH_take (i := 6) (oi := { dst := some 22, op := Op.binOp BinOp.eql 4 (Operand.tmp 18) (Operand.tmp 21) 4, type := 4, pos := "law.go:77", after := #[{ on := 2, ground := Ground.data }, { on := 5, ground := Ground.data }], guard := none }) (v := .bool true) rfl (by kernel_rfl) (by kernel_rfl) (by kernel_rfl) (fun _ _ _ h => h) (Or.inl ⟨by rfl, ?_⟩) hS ?_
      · intro w9 hSw
        obtain ⟨s0, s1, s2, s3, s4, s5, s6, s7, s8, s9⟩ := hSw
        go_simp
      simp only [Act.put, List.setIfInBounds_toArray, List.set_cons_zero, List.set_cons_succ]
      refine wpAnyH_take (i := 7) (oi := { dst := some 23, op := Op.move (Operand.tmp 22), type := 4, pos := "law.go:77", after := #[{ on := 6, ground := Ground.data }, { on := 5, ground := Ground.chain }], guard := none }) (v := .bool true) rfl (by kernel_rfl) (by kernel_rfl) (by kernel_rfl) (fun _ _ _ h => h) (Or.inl ⟨by rfl, ?_⟩) hS ?_
      · intro w9 hSw
        obtain ⟨s0, s1, s2, s3, s4, s5, s6, s7, s8, s9⟩ := hSw
        go_simp
      simp only [Act.put, List.setIfInBounds_toArray, List.set_cons_zero, List.set_cons_succ]
      refine wpAnyH_take (i := 8) (oi := { dst := some 24, op := Op.load 27 (Operand.tmp 2), type := 27, pos := "law.go:77", after := #[{ on := 7, ground := Ground.guard }], guard := some (7, true) }) (v := .agg #[.int .i64 k1, .int .i64 i1, .string n1, .slice AL1 nl1 cl1, .slice AK1 a.kids.length ck1]) rfl (by kernel_rfl) (by kernel_rfl) (by kernel_rfl) (fun _ _ _ h => h) (Or.inl ⟨by rfl, ?_⟩) hS ?_
      · intro w9 hSw
        obtain ⟨s0, s1, s2, s3, s4, s5, s6, s7, s8, s9⟩ := hSw
        go_simp
      simp only [Act.put, List.setIfInBounds_toArray, List.set_cons_zero, List.set_cons_succ]
      refine wpAnyH_take (i := 9) (oi := { dst := some 25, op := Op.load 27 (Operand.tmp 2), type := 27, pos := "law.go:77", after := #[{ on := 7, ground := Ground.guard }], guard := some (7, true) }) (v := .agg #[.int .i64 k1, .int .i64 i1, .string n1, .slice AL1 nl1 cl1, .slice AK1 a.kids.length ck1]) rfl (by kernel_rfl) (by kernel_rfl) (by kernel_rfl) (fun _ _ _ h => h) (Or.inl ⟨by rfl, ?_⟩) hS ?_
      · intro w9 hSw
        obtain ⟨s0, s1, s2, s3, s4, s5, s6, s7, s8, s9⟩ := hSw
        go_simp
      simp only [Act.put, List.setIfInBounds_toArray, List.set_cons_zero, List.set_cons_succ]
      refine wpAnyH_ready (rs := [10]) (by kernel_rfl) (List.cons_ne_nil _ _) ?_
      refine AllReadyH.cons (o := { dst := some 26, op := Op.call { callee := Callee.value (Operand.func 17), args := #[Operand.tmp 24, Operand.tmp 25], argTypes := #[27, 27] }, type := 4, pos := "law.go:77", after := #[{ on := 8, ground := Ground.data }, { on := 9, ground := Ground.data }, { on := 7, ground := Ground.chain }, { on := 7, ground := Ground.guard }], guard := some (7, true) }) rfl (fun K hK => ?_) AllReadyH.nil
      go_simp
      go_at_call 17
      refine (psame_any a a _ _ w.heap.size _ HB.out.tw.tm HB.out.tw.tm HB.out.tw.size (by omega)).mono ?_
      rw [HAA.out]
      rintro e w9 ⟨rfl, hb7⟩
      have HB := Lib.hid (HB.out.next hb7)
      clear hb7
      try go_simp
      refine hK _ _ (⟨HB.out.tw.x0, HB.out.tw.x1, HB.out.tw.x2, HB.out.tw.x3, HB.out.tw.x4, HB.out.tw.y0, HB.out.tw.y1, HB.out.tw.y2, HB.out.tw.y3, HB.out.tw.y4⟩) ?_
      clear hS
      intro hS
      clear hK K
      refine wpAnyH_take (i := 11) (oi := { dst := some 27, op := Op.pick (Operand.tmp 23) (Operand.tmp 26) (Operand.const (Value.bool false)), type := 4, pos := "law.go:77", after := #[{ on := 7, ground := Ground.data }, { on := 10, ground := Ground.data }], guard := none }) (v := .bool true) rfl (by kernel_rfl) (by kernel_rfl) (by kernel_rfl) (fun _ _ _ h => h) (Or.inl ⟨by rfl, ?_⟩) hS ?_
      · intro w9 hSw
        obtain ⟨s0, s1, s2, s3, s4, s5, s6, s7, s8, s9⟩ := hSw
        go_simp
      simp only [Act.put, List.setIfInBounds_toArray, List.set_cons_zero, List.set_cons_succ]
      refine wpAnyH_take (i := 12) (oi := { dst := some 28, op := Op.move (Operand.tmp 27), type := 4, pos := "law.go:77", after := #[{ on := 11, ground := Ground.data }, { on := 10, ground := Ground.chain }], guard := none }) (v := .bool true) rfl (by kernel_rfl) (by kernel_rfl) (by kernel_rfl) (fun _ _ _ h => h) (Or.inl ⟨by rfl, ?_⟩) hS ?_
      · intro w9 hSw
        obtain ⟨s0, s1, s2, s3, s4, s5, s6, s7, s8, s9⟩ := hSw
        go_simp
      simp only [Act.put, List.setIfInBounds_toArray, List.set_cons_zero, List.set_cons_succ]
      refine wpAnyH_take (i := 13) (oi := { dst := some 29, op := Op.load 27 (Operand.tmp 3), type := 27, pos := "law.go:77", after := #[{ on := 12, ground := Ground.guard }], guard := some (12, true) }) (v := .agg #[.int .i64 k2, .int .i64 i2, .string n2, .slice AL2 nl2 cl2, .slice AK2 b.kids.length ck2]) rfl (by kernel_rfl) (by kernel_rfl) (by kernel_rfl) (fun _ _ _ h => h) (Or.inl ⟨by rfl, ?_⟩) hS ?_
      · intro w9 hSw
        obtain ⟨s0, s1, s2, s3, s4, s5, s6, s7, s8, s9⟩ := hSw
        go_simp
      simp only [Act.put, List.setIfInBounds_toArray, List.set_cons_zero, List.set_cons_succ]
      refine wpAnyH_take (i := 14) (oi := { dst := some 30, op := Op.load 27 (Operand.tmp 2), type := 27, pos := "law.go:77", after := #[{ on := 12, ground := Ground.guard }], guard := some (12, true) }) (v := .agg #[.int .i64 k1, .int .i64 i1, .string n1, .slice AL1 nl1 cl1, .slice AK1 a.kids.length ck1]) rfl (by kernel_rfl) (by kernel_rfl) (by kernel_rfl) (fun _ _ _ h => h) (Or.inl ⟨by rfl, ?_⟩) hS ?_
      · intro w9 hSw
        obtain ⟨s0, s1, s2, s3, s4, s5, s6, s7, s8, s9⟩ := hSw
        go_simp
      simp only [Act.put, List.setIfInBounds_toArray, List.set_cons_zero, List.set_cons_succ]
      refine wpAnyH_take (i := 16) (oi := { dst := some 32, op := Op.load 27 (Operand.tmp 2), type := 27, pos := "law.go:77", after := #[{ on := 12, ground := Ground.guard }], guard := some (12, true) }) (v := .agg #[.int .i64 k1, .int .i64 i1, .string n1, .slice AL1 nl1 cl1, .slice AK1 a.kids.length ck1]) rfl (by kernel_rfl) (by kernel_rfl) (by kernel_rfl) (fun _ _ _ h => h) (Or.inl ⟨by rfl, ?_⟩) hS ?_
      · intro w9 hSw
        obtain ⟨s0, s1, s2, s3, s4, s5, s6, s7, s8, s9⟩ := hSw
        go_simp
      simp only [Act.put, List.setIfInBounds_toArray, List.set_cons_zero, List.set_cons_succ]
      refine wpAnyH_take (i := 17) (oi := { dst := some 33, op := Op.load 27 (Operand.tmp 3), type := 27, pos := "law.go:77", after := #[{ on := 12, ground := Ground.guard }], guard := some (12, true) }) (v := .agg #[.int .i64 k2, .int .i64 i2, .string n2, .slice AL2 nl2 cl2, .slice AK2 b.kids.length ck2]) rfl (by kernel_rfl) (by kernel_rfl) (by kernel_rfl) (fun _ _ _ h => h) (Or.inl ⟨by rfl, ?_⟩) hS ?_
      · intro w9 hSw
        obtain ⟨s0, s1, s2, s3, s4, s5, s6, s7, s8, s9⟩ := hSw
        go_simp
      simp only [Act.put, List.setIfInBounds_toArray, List.set_cons_zero, List.set_cons_succ]
      refine wpAnyH_ready (rs := [15]) (by kernel_rfl) (List.cons_ne_nil _ _) ?_
      refine AllReadyH.cons (o := { dst := some 31, op := Op.call { callee := Callee.value (Operand.func 17), args := #[Operand.tmp 29, Operand.tmp 30], argTypes := #[27, 27] }, type := 4, pos := "law.go:77", after := #[{ on := 13, ground := Ground.data }, { on := 14, ground := Ground.data }, { on := 12, ground := Ground.chain }, { on := 12, ground := Ground.guard }], guard := some (12, true) }) rfl (fun K hK => ?_) AllReadyH.nil
      go_simp
      go_at_call 17
      refine (psame_any b a _ _ w.heap.size _ HB.out.tw.tn HB.out.tw.tm HB.out.tw.size (by omega)).mono ?_
      rw [HBA.out]
      rintro e w10 ⟨rfl, hb7⟩
      have HB := Lib.hid (HB.out.next hb7)
      clear hb7
      try go_simp
      refine hK _ _ (⟨HB.out.tw.x0, HB.out.tw.x1, HB.out.tw.x2, HB.out.tw.x3, HB.out.tw.x4, HB.out.tw.y0, HB.out.tw.y1, HB.out.tw.y2, HB.out.tw.y3, HB.out.tw.y4⟩) ?_
      clear hS
      intro hS
      clear hK K
      refine wpAnyH_ready (rs := [18]) (by kernel_rfl) (List.cons_ne_nil _ _) ?_
      refine AllReadyH.cons (o := { dst := some 34, op := Op.call { callee := Callee.value (Operand.func 17), args := #[Operand.tmp 32, Operand.tmp 33], argTypes := #[27, 27] }, type := 4, pos := "law.go:77", after := #[{ on := 16, ground := Ground.data }, { on := 17, ground := Ground.data }, { on := 15, ground := Ground.chain }, { on := 12, ground := Ground.guard }], guard := some (12, true) }) rfl (fun K hK => ?_) AllReadyH.nil
      go_simp
      go_at_call 17
      refine (psame_any a b _ _ w.heap.size _ HB.out.tw.tm HB.out.tw.tn HB.out.tw.size (by omega)).mono ?_
      rw [HEV.out]
      rintro e w11 ⟨rfl, hb7⟩
      have HB := Lib.hid (HB.out.next hb7)
      clear hb7
      try go_simp
      refine hK _ _ (⟨HB.out.tw.x0, HB.out.tw.x1, HB.out.tw.x2, HB.out.tw.x3, HB.out.tw.x4, HB.out.tw.y0, HB.out.tw.y1, HB.out.tw.y2, HB.out.tw.y3, HB.out.tw.y4⟩) ?_
      clear hS
      intro hS
      clear hK K
      refine wpAnyH_take (i := 19) (oi := { dst := some 35, op := Op.binOp BinOp.eql 4 (Operand.tmp 31) (Operand.tmp 34) 4, type := 4, pos := "law.go:77", after := #[{ on := 15, ground := Ground.data }, { on := 18, ground := Ground.data }, { on := 12, ground := Ground.guard }], guard := some (12, true) }) (v := .bool true) rfl (by kernel_rfl) (by kernel_rfl) (by kernel_rfl) (fun _ _ _ h => h) (Or.inl ⟨by rfl, ?_⟩) hS ?_
      · intro w9 hSw
        obtain ⟨s0, s1, s2, s3, s4, s5, s6, s7, s8, s9⟩ := hSw
        go_simp
      simp only [Act.put, List.setIfInBounds_toArray, List.set_cons_zero, List.set_cons_succ]
      refine wpAnyH_take (i := 20) (oi := { dst := some 36, op := Op.pick (Operand.tmp 28) (Operand.tmp 35) (Operand.const (Value.bool false)), type := 4, pos := "law.go:77", after := #[{ on := 12, ground := Ground.data }, { on := 19, ground := Ground.data }], guard := none }) (v := .bool true) rfl (by kernel_rfl) (by kernel_rfl) (by kernel_rfl) (fun _ _ _ h => h) (Or.inl ⟨by rfl, ?_⟩) hS ?_
      · intro w9 hSw
        obtain ⟨s0, s1, s2, s3, s4, s5, s6, s7, s8, s9⟩ := hSw
        go_simp
      simp only [Act.put, List.setIfInBounds_toArray, List.set_cons_zero, List.set_cons_succ]
      refine wpAnyH_take (i := 21) (oi := { dst := some 37, op := Op.move (Operand.tmp 36), type := 4, pos := "law.go:77", after := #[{ on := 20, ground := Ground.data }, { on := 18, ground := Ground.chain }], guard := none }) (v := .bool true) rfl (by kernel_rfl) (by kernel_rfl) (by kernel_rfl) (fun _ _ _ h => h) (Or.inl ⟨by rfl, ?_⟩) hS ?_
      · intro w9 hSw
        obtain ⟨s0, s1, s2, s3, s4, s5, s6, s7, s8, s9⟩ := hSw
        go_simp
      simp only [Act.put, List.setIfInBounds_toArray, List.set_cons_zero, List.set_cons_succ]
      refine wpAnyH_ready (rs := [22]) (by kernel_rfl) (List.cons_ne_nil _ _) ?_
      refine AllReadyH.cons (o := { dst := some 38, op := Op.call { callee := Callee.value (Operand.func 11), args := #[], argTypes := #[] }, type := 4, pos := "law.go:77", after := #[{ on := 21, ground := Ground.chain }, { on := 21, ground := Ground.guard }], guard := some (21, true) }) rfl (fun K hK => ?_) AllReadyH.nil
      go_simp
      go_at_call 11
      refine (awake_any _ HB.out.sh (by have := HB.out.tw.size; have := HB.out.pos; omega)).mono ?_
      rintro e w12 ⟨rfl, hb7⟩
      have HB := Lib.hid (HB.out.next hb7)
      clear hb7
      try go_simp
      refine hK _ _ (⟨HB.out.tw.x0, HB.out.tw.x1, HB.out.tw.x2, HB.out.tw.x3, HB.out.tw.x4, HB.out.tw.y0, HB.out.tw.y1, HB.out.tw.y2, HB.out.tw.y3, HB.out.tw.y4⟩) ?_
      clear hS
      intro hS
      clear hK K
      refine wpAnyH_take (i := 23) (oi := { dst := some 39, op := Op.pick (Operand.tmp 37) (Operand.tmp 38) (Operand.const (Value.bool false)), type := 4, pos := "law.go:77", after := #[{ on := 21, ground := Ground.data }, { on := 22, ground := Ground.data }], guard := none }) (v := .bool true) rfl (by kernel_rfl) (by kernel_rfl) (by kernel_rfl) (fun _ _ _ h => h) (Or.inl ⟨by rfl, ?_⟩) hS ?_
      · intro w9 hSw
        obtain ⟨s0, s1, s2, s3, s4, s5, s6, s7, s8, s9⟩ := hSw
        go_simp
      simp only [Act.put, List.setIfInBounds_toArray, List.set_cons_zero, List.set_cons_succ]
      refine wpAnyH_take (i := 24) (oi := { dst := some 4, op := Op.assign (Operand.tmp 39), type := 4, pos := "law.go:77", after := #[{ on := 23, ground := Ground.data }, { on := 22, ground := Ground.chain }, { on := 0, ground := Ground.phase }, { on := 1, ground := Ground.phase }, { on := 2, ground := Ground.phase }, { on := 3, ground := Ground.phase }, { on := 4, ground := Ground.phase }, { on := 5, ground := Ground.phase }, { on := 6, ground := Ground.phase }, { on := 7, ground := Ground.phase }, { on := 8, ground := Ground.phase }, { on := 9, ground := Ground.phase }, { on := 10, ground := Ground.phase }, { on := 11, ground := Ground.phase }, { on := 12, ground := Ground.phase }, { on := 13, ground := Ground.phase }, { on := 14, ground := Ground.phase }, { on := 15, ground := Ground.phase }, { on := 16, ground := Ground.phase }, { on := 17, ground := Ground.phase }, { on := 18, ground := Ground.phase }, { on := 19, ground := Ground.phase }, { on := 20, ground := Ground.phase }, { on := 21, ground := Ground.phase }, { on := 22, ground := Ground.phase }, { on := 23, ground := Ground.phase }], guard := none }) (v := .bool true) rfl (by kernel_rfl) (by kernel_rfl) (by kernel_rfl) (fun _ _ _ h => h) (Or.inl ⟨by rfl, ?_⟩) hS ?_
      · intro w9 hSw
        obtain ⟨s0, s1, s2, s3, s4, s5, s6, s7, s8, s9⟩ := hSw
        go_simp
      simp only [Act.put, List.setIfInBounds_toArray, List.set_cons_zero, List.set_cons_succ]
      refine wpAnyH_done (by kernel_rfl) ?_ _
      go_wp2_with fail
      go_ret
      exact ⟨rfl, HB.out.tw.below⟩
end Go.Proofs.YtbiifkpelldciaaDoor
