/- The law TermFree. -/
import Derived.Test.YtbiifkpelldciaaDoorOne
import Derived.Test.YtbiifkpelldciaaDoorRoc
namespace Go.Proofs.YtbiifkpelldciaaDoor
open Go.RowKit

set_option maxRecDepth 100000 in
set_option maxHeartbeats 8000000 in
theorem termFree_any (t : Tm) (v : Value) (x0 : Int) (w : World) (hv : TmV w w.heap.size t v) (hsh : Shapes w) (hw : 0 < w.heap.size) : Calls Tryd.prog 7 #[v, .int .i64 x0] w fun e w' => e = .returned (.bool true) ∧ Below w.heap.size w w' := by
  have hv0 := hv
  obtain ⟨k, i, nm, AL, nl, cl, AK, ck, rfl, _, _⟩ := hv.open_
  have T0 := Lib.hid (OneT.start hv hsh hw)
  clear hv hsh hw hv0
  obtain ⟨x0', x1, x2, x3, x4, _, _, _, _, _, _⟩ := T0.out
  go_enter Tryd.func7, Tryd.ntmps7
  go_wp2_with fail
  have hl := T0.out.listed
  simp only [World.size_alloc] at hl
  refine (few_any (szL [t] + 1) [t] (some ⟨w.heap.size + 1, 0, none⟩) 1 (w.heap.size + 1 + 1) _ (by omega) (by simp) hl (by simp)).mono ?_
  rintro e w2 ⟨b, rfl, hb, hf⟩
  have T1 := Lib.hid ((T0.out.alloc _).next hb)
  clear x0' x1 x2 x3 x4 hb hl T0
  cases b with
  | false =>
    go_wp2_with fail
    refine (awake_any _ T1.out.sh (by have := T1.out.size; have := T1.out.pos; omega)).mono ?_
    rintro e w3 ⟨rfl, hb3⟩
    have T2 := Lib.hid (T1.out.next hb3)
    clear hb3
    go_wp2_with fail
    go_ret
    exact ⟨rfl, T2.out.below⟩
  | true =>
    have hsz := (hf rfl).sz
    rw [szL, szL, Nat.add_zero] at hsz
    have hfl := freeS_length (preT t 0 1)
    rw [preT_length] at hfl
    have hfl' : (freeT t).length * 8 ≤ 140737488355328 := by unfold freeT; omega
    clear hf hfl
    have HB := Lib.hid T1.out.drew
    clear T1
    go_wp2_with fail
    refine wp_region_held_drew (S := fun w' => w'.cell? ⟨w.heap.size, 0, none⟩ = some (.int .i64 k) ∧ w'.cell? ⟨w.heap.size, 1, none⟩ = some (.int .i64 i) ∧ w'.cell? ⟨w.heap.size, 2, none⟩ = some (.string nm) ∧ w'.cell? ⟨w.heap.size, 3, none⟩ = some (.slice AL nl cl) ∧ w'.cell? ⟨w.heap.size, 4, none⟩ = some (.slice AK t.kids.length ck)) (by kernel_rfl) (⟨HB.out.x0, HB.out.x1, HB.out.x2, HB.out.x3, HB.out.x4⟩) ?_
    intro hS
    refine wpAnyH_take (i := 0) (oi := { dst := some 10, op := Op.load 27 (Operand.tmp 2), type := 27, pos := "law.go:93", after := #[], guard := none }) (v := .agg #[.int .i64 k, .int .i64 i, .string nm, .slice AL nl cl, .slice AK t.kids.length ck]) rfl (by kernel_rfl) (by kernel_rfl) (by kernel_rfl) (fun _ _ _ h => h) (Or.inl ⟨by rfl, ?_⟩) hS ?_
    · intro w9 hSw
      obtain ⟨s0, s1, s2, s3, s4⟩ := hSw
      go_simp
    simp only [Act.put, List.setIfInBounds_toArray, List.set_cons_zero, List.set_cons_succ]
    refine wpAnyH_take (i := 2) (oi := { dst := some 12, op := Op.load 27 (Operand.tmp 2), type := 27, pos := "law.go:93", after := #[], guard := none }) (v := .agg #[.int .i64 k, .int .i64 i, .string nm, .slice AL nl cl, .slice AK t.kids.length ck]) rfl (by kernel_rfl) (by kernel_rfl) (by kernel_rfl) (fun _ _ _ h => h) (Or.inl ⟨by rfl, ?_⟩) hS ?_
    · intro w9 hSw
      obtain ⟨s0, s1, s2, s3, s4⟩ := hSw
      go_simp
    simp only [Act.put, List.setIfInBounds_toArray, List.set_cons_zero, List.set_cons_succ]
    refine wpAnyH_ready (rs := [1]) (by kernel_rfl) (List.cons_ne_nil _ _) ?_
    refine AllReadyH.cons (o := { dst := some 11, op := Op.call { callee := Callee.value (Operand.func 24), args := #[Operand.tmp 10], argTypes := #[27] }, type := 39, pos := "law.go:93", after := #[{ on := 0, ground := Ground.data }], guard := none }) rfl (fun K hK => ?_) AllReadyH.nil
    go_simp
    go_at_call 24
    refine (tfree_any t _ w.heap.size _ HB.out.tm HB.out.size HB.out.pos HB.out.sh.s4 (by omega)).mono ?_
    rintro e w7 ⟨v7, rfl, hrow, hb7⟩
    obtain ⟨A1, c1, rfl, hia1⟩ := ia_of hrow (by omega)
    have HI1 := Lib.hid hia1
    clear hrow hia1
    have HB := Lib.hid (HB.out.next hb7)
    clear hb7
    try go_simp
    refine hK _ _ (⟨HB.out.x0, HB.out.x1, HB.out.x2, HB.out.x3, HB.out.x4⟩) ?_
    clear hS
    intro hS
    clear hK K
    refine wpAnyH_ready (rs := [3]) (by kernel_rfl) (List.cons_ne_nil _ _) ?_
    refine AllReadyH.cons (o := { dst := some 13, op := Op.call { callee := Callee.value (Operand.func 25), args := #[Operand.tmp 12], argTypes := #[27] }, type := 39, pos := "law.go:93", after := #[{ on := 2, ground := Ground.data }, { on := 1, ground := Ground.chain }], guard := none }) rfl (fun K hK => ?_) AllReadyH.nil
    go_simp
    go_at_call 25
    refine (rFree_any t _ w.heap.size _ HB.out.tm HB.out.size (by omega)).mono ?_
    rintro e w8 ⟨A2, c2, rfl, hia2, hb7⟩
    have HI1 := Lib.hid (HI1.out.next0 hb7)
    have HI2 := Lib.hid hia2
    clear hia2
    have HB := Lib.hid (HB.out.next hb7)
    clear hb7
    try go_simp
    refine hK _ _ (⟨HB.out.x0, HB.out.x1, HB.out.x2, HB.out.x3, HB.out.x4⟩) ?_
    clear hS
    intro hS
    clear hK K
    refine wpAnyH_ready (rs := [4]) (by kernel_rfl) (List.cons_ne_nil _ _) ?_
    refine AllReadyH.cons (o := { dst := some 14, op := Op.call { callee := Callee.value (Operand.func 23), args := #[Operand.tmp 11, Operand.tmp 13], argTypes := #[39, 39] }, type := 4, pos := "law.go:93", after := #[{ on := 1, ground := Ground.data }, { on := 3, ground := Ground.data }, { on := 3, ground := Ground.chain }], guard := none }) rfl (fun K hK => ?_) AllReadyH.nil
    go_simp
    go_at_call 23
    refine (equalI_any A1 c1 A2 c2 (freeT t) _ _ HI1.out HI2.out (Nat.le_refl _)).mono ?_
    rintro e w9 ⟨rfl, hb7⟩
    have HB := Lib.hid (HB.out.next hb7)
    clear hb7
    try go_simp
    refine hK _ _ (⟨HB.out.x0, HB.out.x1, HB.out.x2, HB.out.x3, HB.out.x4⟩) ?_
    clear hS
    intro hS
    clear hK K
    refine wpAnyH_take (i := 5) (oi := { dst := some 15, op := Op.move (Operand.tmp 14), type := 4, pos := "law.go:93", after := #[{ on := 4, ground := Ground.data }, { on := 4, ground := Ground.chain }], guard := none }) (v := .bool true) rfl (by kernel_rfl) (by kernel_rfl) (by kernel_rfl) (fun _ _ _ h => h) (Or.inl ⟨by rfl, ?_⟩) hS ?_
    · intro w9 hSw
      obtain ⟨s0, s1, s2, s3, s4⟩ := hSw
      go_simp
    simp only [Act.put, List.setIfInBounds_toArray, List.set_cons_zero, List.set_cons_succ]
    refine wpAnyH_take (i := 6) (oi := { dst := some 16, op := Op.load 27 (Operand.tmp 2), type := 27, pos := "law.go:93", after := #[{ on := 5, ground := Ground.guard }], guard := some (5, true) }) (v := .agg #[.int .i64 k, .int .i64 i, .string nm, .slice AL nl cl, .slice AK t.kids.length ck]) rfl (by kernel_rfl) (by kernel_rfl) (by kernel_rfl) (fun _ _ _ h => h) (Or.inl ⟨by rfl, ?_⟩) hS ?_
    · intro w9 hSw
      obtain ⟨s0, s1, s2, s3, s4⟩ := hSw
      go_simp
    simp only [Act.put, List.setIfInBounds_toArray, List.set_cons_zero, List.set_cons_succ]
    refine wpAnyH_take (i := 7) (oi := { dst := some 17, op := Op.move (Operand.tmp 1), type := 3, pos := "law.go:93", after := #[{ on := 5, ground := Ground.guard }], guard := some (5, true) }) (v := .int .i64 x0) rfl (by kernel_rfl) (by kernel_rfl) (by kernel_rfl) (fun _ _ _ h => h) (Or.inl ⟨by rfl, ?_⟩) hS ?_
    · intro w9 hSw
      obtain ⟨s0, s1, s2, s3, s4⟩ := hSw
      go_simp
    simp only [Act.put, List.setIfInBounds_toArray, List.set_cons_zero, List.set_cons_succ]
    refine wpAnyH_take (i := 9) (oi := { dst := some 19, op := Op.load 27 (Operand.tmp 2), type := 27, pos := "law.go:93", after := #[{ on := 5, ground := Ground.guard }], guard := some (5, true) }) (v := .agg #[.int .i64 k, .int .i64 i, .string nm, .slice AL nl cl, .slice AK t.kids.length ck]) rfl (by kernel_rfl) (by kernel_rfl) (by kernel_rfl) (fun _ _ _ h => h) (Or.inl ⟨by rfl, ?_⟩) hS ?_
    · intro w9 hSw
      obtain ⟨s0, s1, s2, s3, s4⟩ := hSw
      go_simp
    simp only [Act.put, List.setIfInBounds_toArray, List.set_cons_zero, List.set_cons_succ]
    refine wpAnyH_take (i := 10) (oi := { dst := some 20, op := Op.move (Operand.tmp 1), type := 3, pos := "law.go:93", after := #[{ on := 5, ground := Ground.guard }], guard := some (5, true) }) (v := .int .i64 x0) rfl (by kernel_rfl) (by kernel_rfl) (by kernel_rfl) (fun _ _ _ h => h) (Or.inl ⟨by rfl, ?_⟩) hS ?_
    · intro w9 hSw
      obtain ⟨s0, s1, s2, s3, s4⟩ := hSw
      go_simp
    simp only [Act.put, List.setIfInBounds_toArray, List.set_cons_zero, List.set_cons_succ]
    refine wpAnyH_ready (rs := [8]) (by kernel_rfl) (List.cons_ne_nil _ _) ?_
    refine AllReadyH.cons (o := { dst := some 18, op := Op.call { callee := Callee.value (Operand.func 26), args := #[Operand.tmp 16, Operand.tmp 17], argTypes := #[27, 3] }, type := 4, pos := "law.go:93", after := #[{ on := 6, ground := Ground.data }, { on := 7, ground := Ground.data }, { on := 5, ground := Ground.chain }, { on := 5, ground := Ground.guard }], guard := some (5, true) }) rfl (fun K hK => ?_) AllReadyH.nil
    go_simp
    go_at_call 26
    refine (occurs_any t _ x0 w.heap.size _ HB.out.tm HB.out.size HB.out.pos HB.out.sh.s4 (by omega)).mono ?_
    rintro e w7 ⟨rfl, hb7⟩
    have HB := Lib.hid (HB.out.next hb7)
    clear hb7
    try go_simp
    refine hK _ _ (⟨HB.out.x0, HB.out.x1, HB.out.x2, HB.out.x3, HB.out.x4⟩) ?_
    clear hS
    intro hS
    clear hK K
    refine wpAnyH_ready (rs := [11]) (by kernel_rfl) (List.cons_ne_nil _ _) ?_
    refine AllReadyH.cons (o := { dst := some 21, op := Op.call { callee := Callee.value (Operand.func 27), args := #[Operand.tmp 19, Operand.tmp 20], argTypes := #[27, 3] }, type := 4, pos := "law.go:93", after := #[{ on := 9, ground := Ground.data }, { on := 10, ground := Ground.data }, { on := 8, ground := Ground.chain }, { on := 5, ground := Ground.guard }], guard := some (5, true) }) rfl (fun K hK => ?_) AllReadyH.nil
    go_simp
    go_at_call 27
    refine (roccurs_any t _ x0 w.heap.size _ HB.out.tm HB.out.size (by omega)).mono ?_
    rintro e w8 ⟨rfl, hb7⟩
    have HB := Lib.hid (HB.out.next hb7)
    clear hb7
    try go_simp
    refine hK _ _ (⟨HB.out.x0, HB.out.x1, HB.out.x2, HB.out.x3, HB.out.x4⟩) ?_
    clear hS
    intro hS
    clear hK K
    refine wpAnyH_take (i := 12) (oi := { dst := some 22, op := Op.binOp BinOp.eql 4 (Operand.tmp 18) (Operand.tmp 21) 4, type := 4, pos := "law.go:93", after := #[{ on := 8, ground := Ground.data }, { on := 11, ground := Ground.data }, { on := 5, ground := Ground.guard }], guard := some (5, true) }) (v := .bool true) rfl (by kernel_rfl) (by kernel_rfl) (by kernel_rfl) (fun _ _ _ h => h) (Or.inl ⟨by rfl, ?_⟩) hS ?_
    · intro w9 hSw
      obtain ⟨s0, s1, s2, s3, s4⟩ := hSw
      go_simp
    simp only [Act.put, List.setIfInBounds_toArray, List.set_cons_zero, List.set_cons_succ]
    refine wpAnyH_take (i := 13) (oi := { dst := some 23, op := Op.pick (Operand.tmp 15) (Operand.tmp 22) (Operand.const (Value.bool false)), type := 4, pos := "law.go:93", after := #[{ on := 5, ground := Ground.data }, { on := 12, ground := Ground.data }], guard := none }) (v := .bool true) rfl (by kernel_rfl) (by kernel_rfl) (by kernel_rfl) (fun _ _ _ h => h) (Or.inl ⟨by rfl, ?_⟩) hS ?_
    · intro w9 hSw
      obtain ⟨s0, s1, s2, s3, s4⟩ := hSw
      go_simp
    simp only [Act.put, List.setIfInBounds_toArray, List.set_cons_zero, List.set_cons_succ]
    refine wpAnyH_take (i := 14) (oi := { dst := some 24, op := Op.move (Operand.tmp 23), type := 4, pos := "law.go:93", after := #[{ on := 13, ground := Ground.data }, { on := 11, ground := Ground.chain }], guard := none }) (v := .bool true) rfl (by kernel_rfl) (by kernel_rfl) (by kernel_rfl) (fun _ _ _ h => h) (Or.inl ⟨by rfl, ?_⟩) hS ?_
    · intro w9 hSw
      obtain ⟨s0, s1, s2, s3, s4⟩ := hSw
      go_simp
    simp only [Act.put, List.setIfInBounds_toArray, List.set_cons_zero, List.set_cons_succ]
    refine wpAnyH_ready (rs := [15]) (by kernel_rfl) (List.cons_ne_nil _ _) ?_
    refine AllReadyH.cons (o := { dst := some 25, op := Op.call { callee := Callee.value (Operand.func 11), args := #[], argTypes := #[] }, type := 4, pos := "law.go:93", after := #[{ on := 14, ground := Ground.chain }, { on := 14, ground := Ground.guard }], guard := some (14, true) }) rfl (fun K hK => ?_) AllReadyH.nil
    go_simp
    go_at_call 11
    refine (awake_any _ HB.out.sh (by have := HB.out.size; have := HB.out.pos; omega)).mono ?_
    rintro e w9 ⟨rfl, hb7⟩
    have HB := Lib.hid (HB.out.next hb7)
    clear hb7
    try go_simp
    refine hK _ _ (⟨HB.out.x0, HB.out.x1, HB.out.x2, HB.out.x3, HB.out.x4⟩) ?_
    clear hS
    intro hS
    clear hK K
    refine wpAnyH_take (i := 16) (oi := { dst := some 26, op := Op.pick (Operand.tmp 24) (Operand.tmp 25) (Operand.const (Value.bool false)), type := 4, pos := "law.go:93", after := #[{ on := 14, ground := Ground.data }, { on := 15, ground := Ground.data }], guard := none }) (v := .bool true) rfl (by kernel_rfl) (by kernel_rfl) (by kernel_rfl) (fun _ _ _ h => h) (Or.inl ⟨by rfl, ?_⟩) hS ?_
    · intro w9 hSw
      obtain ⟨s0, s1, s2, s3, s4⟩ := hSw
      go_simp
    simp only [Act.put, List.setIfInBounds_toArray, List.set_cons_zero, List.set_cons_succ]
    refine wpAnyH_take (i := 17) (oi := { dst := some 4, op := Op.assign (Operand.tmp 26), type := 4, pos := "law.go:93", after := #[{ on := 16, ground := Ground.data }, { on := 15, ground := Ground.chain }, { on := 0, ground := Ground.phase }, { on := 1, ground := Ground.phase }, { on := 2, ground := Ground.phase }, { on := 3, ground := Ground.phase }, { on := 4, ground := Ground.phase }, { on := 5, ground := Ground.phase }, { on := 6, ground := Ground.phase }, { on := 7, ground := Ground.phase }, { on := 8, ground := Ground.phase }, { on := 9, ground := Ground.phase }, { on := 10, ground := Ground.phase }, { on := 11, ground := Ground.phase }, { on := 12, ground := Ground.phase }, { on := 13, ground := Ground.phase }, { on := 14, ground := Ground.phase }, { on := 15, ground := Ground.phase }, { on := 16, ground := Ground.phase }], guard := none }) (v := .bool true) rfl (by kernel_rfl) (by kernel_rfl) (by kernel_rfl) (fun _ _ _ h => h) (Or.inl ⟨by rfl, ?_⟩) hS ?_
    · intro w9 hSw
      obtain ⟨s0, s1, s2, s3, s4⟩ := hSw
      go_simp
    simp only [Act.put, List.setIfInBounds_toArray, List.set_cons_zero, List.set_cons_succ]
    refine wpAnyH_done (by kernel_rfl) ?_ _
    go_wp2_with fail
    go_ret
    exact ⟨rfl, HB.out.below⟩
end Go.Proofs.YtbiifkpelldciaaDoor
