/- The law TermChecks. -/
import Derived.Test.YtbiifkpelldciaaDoorRcc
import Derived.Test.YtbiifkpelldciaaDoorAwt
import Derived.Test.YtbiifkpelldciaaDoorFwk
namespace Go.Proofs.YtbiifkpelldciaaDoor
open Go.RowKit

/-- A term put into a list of one. -/
theorem listed_of {wx : World} {B : Nat} {t : Tm} {c0 c1 c2 c3 c4 : Value} (htm : TmV wx B t (.agg #[c0, c1, c2, c3, c4])) (hB : B ≤ wx.heap.size) : KidsA (wx.alloc (.cells #[c0, c1, c2, c3, c4] 27)) (wx.heap.size + 1) (some ⟨wx.heap.size, 0, none⟩) [t] := by
  have hn := World.alloc_heap_new wx (.cells #[c0, c1, c2, c3, c4] 27)
  have h2 := (htm.below ((Below.refl wx.heap.size wx).alloc (Nat.le_refl _) (.cells #[c0, c1, c2, c3, c4] 27)) hB).more (B' := wx.heap.size + 1) (by omega)
  have hks : KsV (wx.alloc (.cells #[c0, c1, c2, c3, c4] 27)) (wx.heap.size + 1) wx.heap.size 0 [t] := by
    rw [KsV, KsV]
    exact ⟨⟨c0, c1, c2, c3, c4, cell_of_row _ _ 0 _ _ _ hn, cell_of_row _ _ 1 _ _ _ hn, cell_of_row _ _ 2 _ _ _ hn, cell_of_row _ _ 3 _ _ _ hn, cell_of_row _ _ 4 _ _ _ hn, h2⟩, trivial⟩
  have hp : TmV (wx.alloc (.cells #[c0, c1, c2, c3, c4] 27)) (wx.heap.size + 1) (.mk 0 0 ⟨#[]⟩ [] [t]) (.agg #[.int .i64 0, .int .i64 0, .string ⟨#[]⟩, .slice none 0 0, .slice (some ⟨wx.heap.size, 0, none⟩) 1 1]) := by
    rw [TmV]
    exact ⟨none, 0, some ⟨wx.heap.size, 0, none⟩, 1, rfl, ⟨by simp, fun h => by simp at h⟩, by simp, fun _ => ⟨wx.heap.size, 0, rfl, by omega, hks⟩⟩
  exact hp.kidsA.1

set_option maxRecDepth 100000 in
set_option maxHeartbeats 8000000 in
theorem termChecks_any (t : Tm) (v : Value) (a0 a1 a2 a3 : Int) (w : World) (hv : TmV w w.heap.size t v) (hsh : Shapes w) (hw : 0 < w.heap.size) : Calls Tryd.prog 4 #[v, .agg #[.int .i64 a0, .int .i64 a1, .int .i64 a2, .int .i64 a3]] w fun e w' => e = .returned (.bool true) ∧ Below w.heap.size w w' := by
  have hv0 := hv
  obtain ⟨k, i, nm, AL, nl, cl, AK, ck, rfl, _, _⟩ := hv.open_
  have T0 := Lib.hid (ScT.start (a0 := a0) (a1 := a1) (a2 := a2) (a3 := a3) hv0 hsh (Nat.le_refl _) hw)
  clear hv hsh hw hv0
  obtain ⟨x0, x1, x2, x3, x4, _, _, _, _, _, _, _, _, _, _⟩ := T0.out
  go_enter Tryd.func4, Tryd.ntmps4
  go_wp2_with fail
  have hl := listed_of T0.out.tm T0.out.size
  simp only [World.size_alloc] at hl
  refine (few_any (szL [t] + 1) [t] (some ⟨w.heap.size + 1 + 1, 0, none⟩) 1 (w.heap.size + 1 + 1 + 1) _ (by omega) (by simp) hl (by simp)).mono ?_
  rintro e w2 ⟨b, rfl, hb, hf⟩
  have T1 := Lib.hid ((T0.out.next ((Below.refl _ _).alloc (Nat.le_refl _) _)).next hb)
  clear x0 x1 x2 x3 x4 hb hl T0
  cases b with
  | false =>
    go_wp2_with fail
    refine (awake_any _ T1.out.sh (by have := T1.out.size; have := T1.out.pos; omega)).mono ?_
    rintro e w3 ⟨rfl, hb3⟩
    have T2 := Lib.hid (T1.out.next hb3)
    clear hb3
    go_wp2_with fail
    go_ret
    exact ⟨rfl, T2.out.below⟩
  | true =>
    have hsz := (hf rfl).sz
    rw [szL, szL, Nat.add_zero] at hsz
    clear hf
    have HB := Lib.hid (T1.out.next (wy := w2.drew) ⟨rfl, rfl, rfl, Nat.le_refl _, fun _ _ => rfl⟩)
    clear T1
    go_wp2_with fail
    refine wp_region_held_drew (S := fun w' => w'.cell? ⟨w.heap.size, 0, none⟩ = some (.int .i64 k) ∧ w'.cell? ⟨w.heap.size, 1, none⟩ = some (.int .i64 i) ∧ w'.cell? ⟨w.heap.size, 2, none⟩ = some (.string nm) ∧ w'.cell? ⟨w.heap.size, 3, none⟩ = some (.slice AL nl cl) ∧ w'.cell? ⟨w.heap.size, 4, none⟩ = some (.slice AK t.kids.length ck) ∧ w'.cell? ⟨w.heap.size + 1, 0, none⟩ = some (.int .i64 a0) ∧ w'.cell? ⟨w.heap.size + 1, 1, none⟩ = some (.int .i64 a1) ∧ w'.cell? ⟨w.heap.size + 1, 2, none⟩ = some (.int .i64 a2) ∧ w'.cell? ⟨w.heap.size + 1, 3, none⟩ = some (.int .i64 a3)) (by kernel_rfl) (⟨HB.out.x0, HB.out.x1, HB.out.x2, HB.out.x3, HB.out.x4, HB.out.s0, HB.out.s1, HB.out.s2, HB.out.s3⟩) ?_
    intro hS
    refine wpAnyH_take (i := 0) (oi := { dst := some 10, op := Op.load 27 (Operand.tmp 2), type := 27, pos := "law.go:69", after := #[], guard := none }) (v := .agg #[.int .i64 k, .int .i64 i, .string nm, .slice AL nl cl, .slice AK t.kids.length ck]) rfl (by kernel_rfl) (by kernel_rfl) (by kernel_rfl) (fun _ _ _ h => h) (Or.inl ⟨by rfl, ?_⟩) hS ?_
    · intro w9 hSw
      obtain ⟨s0, s1, s2, s3, s4, s5, s6, s7, s8⟩ := hSw
      go_simp
    simp only [Act.put, List.setIfInBounds_toArray, List.set_cons_zero, List.set_cons_succ]
    refine wpAnyH_take (i := 1) (oi := { dst := some 11, op := Op.load 29 (Operand.tmp 3), type := 29, pos := "law.go:69", after := #[], guard := none }) (v := .agg #[.int .i64 a0, .int .i64 a1, .int .i64 a2, .int .i64 a3]) rfl (by kernel_rfl) (by kernel_rfl) (by kernel_rfl) (fun _ _ _ h => h) (Or.inl ⟨by rfl, ?_⟩) hS ?_
    · intro w9 hSw
      obtain ⟨s0, s1, s2, s3, s4, s5, s6, s7, s8⟩ := hSw
      go_simp
    simp only [Act.put, List.setIfInBounds_toArray, List.set_cons_zero, List.set_cons_succ]
    refine wpAnyH_take (i := 3) (oi := { dst := some 13, op := Op.load 27 (Operand.tmp 2), type := 27, pos := "law.go:69", after := #[], guard := none }) (v := .agg #[.int .i64 k, .int .i64 i, .string nm, .slice AL nl cl, .slice AK t.kids.length ck]) rfl (by kernel_rfl) (by kernel_rfl) (by kernel_rfl) (fun _ _ _ h => h) (Or.inl ⟨by rfl, ?_⟩) hS ?_
    · intro w9 hSw
      obtain ⟨s0, s1, s2, s3, s4, s5, s6, s7, s8⟩ := hSw
      go_simp
    simp only [Act.put, List.setIfInBounds_toArray, List.set_cons_zero, List.set_cons_succ]
    refine wpAnyH_take (i := 4) (oi := { dst := some 14, op := Op.fieldAddr 29 (Operand.tmp 3) 0, type := 0, pos := "law.go:69", after := #[], guard := none }) (v := .pointer (some ⟨w.heap.size + 1, 0, none⟩)) rfl (by kernel_rfl) (by kernel_rfl) (by kernel_rfl) (fun _ _ _ h => h) (Or.inl ⟨by rfl, ?_⟩) hS ?_
    · intro w9 hSw
      obtain ⟨s0, s1, s2, s3, s4, s5, s6, s7, s8⟩ := hSw
      go_simp
    simp only [Act.put, List.setIfInBounds_toArray, List.set_cons_zero, List.set_cons_succ]
    refine wpAnyH_take (i := 5) (oi := { dst := some 15, op := Op.load 3 (Operand.tmp 14), type := 3, pos := "law.go:69", after := #[{ on := 4, ground := Ground.data }], guard := none }) (v := .int .i64 a0) rfl (by kernel_rfl) (by kernel_rfl) (by kernel_rfl) (fun _ _ _ h => h) (Or.inl ⟨by rfl, ?_⟩) hS ?_
    · intro w9 hSw
      obtain ⟨s0, s1, s2, s3, s4, s5, s6, s7, s8⟩ := hSw
      go_simp
    simp only [Act.put, List.setIfInBounds_toArray, List.set_cons_zero, List.set_cons_succ]
    refine wpAnyH_take (i := 6) (oi := { dst := some 16, op := Op.fieldAddr 29 (Operand.tmp 3) 1, type := 0, pos := "law.go:69", after := #[], guard := none }) (v := .pointer (some ⟨w.heap.size + 1, 1, none⟩)) rfl (by kernel_rfl) (by kernel_rfl) (by kernel_rfl) (fun _ _ _ h => h) (Or.inl ⟨by rfl, ?_⟩) hS ?_
    · intro w9 hSw
      obtain ⟨s0, s1, s2, s3, s4, s5, s6, s7, s8⟩ := hSw
      go_simp
    simp only [Act.put, List.setIfInBounds_toArray, List.set_cons_zero, List.set_cons_succ]
    refine wpAnyH_take (i := 7) (oi := { dst := some 17, op := Op.load 3 (Operand.tmp 16), type := 3, pos := "law.go:69", after := #[{ on := 6, ground := Ground.data }], guard := none }) (v := .int .i64 a1) rfl (by kernel_rfl) (by kernel_rfl) (by kernel_rfl) (fun _ _ _ h => h) (Or.inl ⟨by rfl, ?_⟩) hS ?_
    · intro w9 hSw
      obtain ⟨s0, s1, s2, s3, s4, s5, s6, s7, s8⟩ := hSw
      go_simp
    simp only [Act.put, List.setIfInBounds_toArray, List.set_cons_zero, List.set_cons_succ]
    refine wpAnyH_take (i := 8) (oi := { dst := some 18, op := Op.fieldAddr 29 (Operand.tmp 3) 2, type := 0, pos := "law.go:69", after := #[], guard := none }) (v := .pointer (some ⟨w.heap.size + 1, 2, none⟩)) rfl (by kernel_rfl) (by kernel_rfl) (by kernel_rfl) (fun _ _ _ h => h) (Or.inl ⟨by rfl, ?_⟩) hS ?_
    · intro w9 hSw
      obtain ⟨s0, s1, s2, s3, s4, s5, s6, s7, s8⟩ := hSw
      go_simp
    simp only [Act.put, List.setIfInBounds_toArray, List.set_cons_zero, List.set_cons_succ]
    refine wpAnyH_take (i := 9) (oi := { dst := some 19, op := Op.load 3 (Operand.tmp 18), type := 3, pos := "law.go:69", after := #[{ on := 8, ground := Ground.data }], guard := none }) (v := .int .i64 a2) rfl (by kernel_rfl) (by kernel_rfl) (by kernel_rfl) (fun _ _ _ h => h) (Or.inl ⟨by rfl, ?_⟩) hS ?_
    · intro w9 hSw
      obtain ⟨s0, s1, s2, s3, s4, s5, s6, s7, s8⟩ := hSw
      go_simp
    simp only [Act.put, List.setIfInBounds_toArray, List.set_cons_zero, List.set_cons_succ]
    refine wpAnyH_take (i := 10) (oi := { dst := some 20, op := Op.fieldAddr 29 (Operand.tmp 3) 3, type := 0, pos := "law.go:69", after := #[], guard := none }) (v := .pointer (some ⟨w.heap.size + 1, 3, none⟩)) rfl (by kernel_rfl) (by kernel_rfl) (by kernel_rfl) (fun _ _ _ h => h) (Or.inl ⟨by rfl, ?_⟩) hS ?_
    · intro w9 hSw
      obtain ⟨s0, s1, s2, s3, s4, s5, s6, s7, s8⟩ := hSw
      go_simp
    simp only [Act.put, List.setIfInBounds_toArray, List.set_cons_zero, List.set_cons_succ]
    refine wpAnyH_take (i := 11) (oi := { dst := some 21, op := Op.load 3 (Operand.tmp 20), type := 3, pos := "law.go:69", after := #[{ on := 10, ground := Ground.data }], guard := none }) (v := .int .i64 a3) rfl (by kernel_rfl) (by kernel_rfl) (by kernel_rfl) (fun _ _ _ h => h) (Or.inl ⟨by rfl, ?_⟩) hS ?_
    · intro w9 hSw
      obtain ⟨s0, s1, s2, s3, s4, s5, s6, s7, s8⟩ := hSw
      go_simp
    simp only [Act.put, List.setIfInBounds_toArray, List.set_cons_zero, List.set_cons_succ]
    refine wpAnyH_ready (rs := [2]) (by kernel_rfl) (List.cons_ne_nil _ _) ?_
    refine AllReadyH.cons (o := { dst := some 12, op := Op.call { callee := Callee.value (Operand.func 15), args := #[Operand.tmp 10, Operand.tmp 11], argTypes := #[27, 29] }, type := 31, pos := "law.go:69", after := #[{ on := 0, ground := Ground.data }, { on := 1, ground := Ground.data }], guard := none }) rfl (fun K hK => ?_) AllReadyH.nil
    go_simp
    go_at_call 15
    refine (lcheck_any t _ a0 a1 a2 a3 w.heap.size _ HB.out.tm HB.out.size HB.out.pos HB.out.sh (by omega)).mono ?_
    rintro e w7 ⟨rfl, hb7⟩
    have HB := Lib.hid (HB.out.next hb7)
    clear hb7
    try go_simp
    refine hK _ _ (⟨HB.out.x0, HB.out.x1, HB.out.x2, HB.out.x3, HB.out.x4, HB.out.s0, HB.out.s1, HB.out.s2, HB.out.s3⟩) ?_
    clear hS
    intro hS
    clear hK K
    refine wpAnyH_ready (rs := [12]) (by kernel_rfl) (List.cons_ne_nil _ _) ?_
    refine AllReadyH.cons (o := { dst := some 22, op := Op.call { callee := Callee.value (Operand.func 16), args := #[Operand.tmp 13, Operand.tmp 15, Operand.tmp 17, Operand.tmp 19, Operand.tmp 21], argTypes := #[27, 3, 3, 3, 3] }, type := 3, pos := "law.go:69", after := #[{ on := 3, ground := Ground.data }, { on := 5, ground := Ground.data }, { on := 7, ground := Ground.data }, { on := 9, ground := Ground.data }, { on := 11, ground := Ground.data }, { on := 2, ground := Ground.chain }], guard := none }) rfl (fun K hK => ?_) AllReadyH.nil
    go_simp
    go_at_call 16
    refine (rcheckC_any t _ a0 a1 a2 a3 w.heap.size _ HB.out.tm HB.out.size (by omega)).mono ?_
    rintro e w8 ⟨rfl, hb7⟩
    have HB := Lib.hid (HB.out.next hb7)
    clear hb7
    try go_simp
    refine hK _ _ (⟨HB.out.x0, HB.out.x1, HB.out.x2, HB.out.x3, HB.out.x4, HB.out.s0, HB.out.s1, HB.out.s2, HB.out.s3⟩) ?_
    clear hS
    intro hS
    clear hK K
    refine wpAnyH_take (i := 13) (oi := { dst := some 23, op := Op.binOp BinOp.eql 3 (Operand.tmp 12) (Operand.tmp 22) 3, type := 4, pos := "law.go:69", after := #[{ on := 2, ground := Ground.data }, { on := 12, ground := Ground.data }], guard := none }) (v := .bool true) rfl (by kernel_rfl) (by kernel_rfl) (by kernel_rfl) (fun _ _ _ h => h) (Or.inl ⟨by rfl, ?_⟩) hS ?_
    · intro w9 hSw
      obtain ⟨s0, s1, s2, s3, s4, s5, s6, s7, s8⟩ := hSw
      go_simp
    simp only [Act.put, List.setIfInBounds_toArray, List.set_cons_zero, List.set_cons_succ]
    refine wpAnyH_take (i := 14) (oi := { dst := some 24, op := Op.move (Operand.tmp 23), type := 4, pos := "law.go:69", after := #[{ on := 13, ground := Ground.data }, { on := 12, ground := Ground.chain }], guard := none }) (v := .bool true) rfl (by kernel_rfl) (by kernel_rfl) (by kernel_rfl) (fun _ _ _ h => h) (Or.inl ⟨by rfl, ?_⟩) hS ?_
    · intro w9 hSw
      obtain ⟨s0, s1, s2, s3, s4, s5, s6, s7, s8⟩ := hSw
      go_simp
    simp only [Act.put, List.setIfInBounds_toArray, List.set_cons_zero, List.set_cons_succ]
    refine wpAnyH_ready (rs := [15]) (by kernel_rfl) (List.cons_ne_nil _ _) ?_
    refine AllReadyH.cons (o := { dst := some 25, op := Op.call { callee := Callee.value (Operand.func 11), args := #[], argTypes := #[] }, type := 4, pos := "law.go:69", after := #[{ on := 14, ground := Ground.chain }, { on := 14, ground := Ground.guard }], guard := some (14, true) }) rfl (fun K hK => ?_) AllReadyH.nil
    go_simp
    go_at_call 11
    refine (awake_any _ HB.out.sh (by have := HB.out.size; have := HB.out.pos; omega)).mono ?_
    rintro e w9 ⟨rfl, hb7⟩
    have HB := Lib.hid (HB.out.next hb7)
    clear hb7
    try go_simp
    refine hK _ _ (⟨HB.out.x0, HB.out.x1, HB.out.x2, HB.out.x3, HB.out.x4, HB.out.s0, HB.out.s1, HB.out.s2, HB.out.s3⟩) ?_
    clear hS
    intro hS
    clear hK K
    refine wpAnyH_take (i := 16) (oi := { dst := some 26, op := Op.pick (Operand.tmp 24) (Operand.tmp 25) (Operand.const (Value.bool false)), type := 4, pos := "law.go:69", after := #[{ on := 14, ground := Ground.data }, { on := 15, ground := Ground.data }], guard := none }) (v := .bool true) rfl (by kernel_rfl) (by kernel_rfl) (by kernel_rfl) (fun _ _ _ h => h) (Or.inl ⟨by rfl, ?_⟩) hS ?_
    · intro w9 hSw
      obtain ⟨s0, s1, s2, s3, s4, s5, s6, s7, s8⟩ := hSw
      go_simp
    simp only [Act.put, List.setIfInBounds_toArray, List.set_cons_zero, List.set_cons_succ]
    refine wpAnyH_take (i := 17) (oi := { dst := some 4, op := Op.assign (Operand.tmp 26), type := 4, pos := "law.go:69", after := #[{ on := 16, ground := Ground.data }, { on := 15, ground := Ground.chain }, { on := 0, ground := Ground.phase }, { on := 1, ground := Ground.phase }, { on := 2, ground := Ground.phase }, { on := 3, ground := Ground.phase }, { on := 4, ground := Ground.phase }, { on := 5, ground := Ground.phase }, { on := 6, ground := Ground.phase }, { on := 7, ground := Ground.phase }, { on := 8, ground := Ground.phase }, { on := 9, ground := Ground.phase }, { on := 10, ground := Ground.phase }, { on := 11, ground := Ground.phase }, { on := 12, ground := Ground.phase }, { on := 13, ground := Ground.phase }, { on := 14, ground := Ground.phase }, { on := 15, ground := Ground.phase }, { on := 16, ground := Ground.phase }], guard := none }) (v := .bool true) rfl (by kernel_rfl) (by kernel_rfl) (by kernel_rfl) (fun _ _ _ h => h) (Or.inl ⟨by rfl, ?_⟩) hS ?_
    · intro w9 hSw
      obtain ⟨s0, s1, s2, s3, s4, s5, s6, s7, s8⟩ := hSw
      go_simp
    simp only [Act.put, List.setIfInBounds_toArray, List.set_cons_zero, List.set_cons_succ]
    refine wpAnyH_done (by kernel_rfl) ?_ _
    go_wp2
    go_ret
    exact ⟨rfl, HB.out.below⟩
end Go.Proofs.YtbiifkpelldciaaDoor
