/- Occurs of the program: whether a variable is free in a term. -/
import Derived.Test.YtobaeeobfcffoaaDoorChp
import Derived.IntWalk
namespace Go.Proofs.YtobaeeobfcffoaaDoor
open Go.RowKit
/-- Whether a node is a free variable. -/
def isFree (k i bn : Int) : Bool := !((k != 0) || decide (i < bn))
def freeV (k i bn : Int) : Int := if isFree k i bn = true then wrap64 (i - bn) else 0

set_option maxRecDepth 100000 in
set_option maxHeartbeats 1000000 in
theorem free_any (b off : Nat) (k i bn dp : Int) (w : World) (h0 : w.cell? ⟨b, off, none⟩ = some (.int .i64 k)) (h1 : w.cell? ⟨b, off + 1, none⟩ = some (.int .i64 i)) (hb : b < w.heap.size) :
    Calls Tryd.prog 47 #[.agg #[.pointer (some ⟨b, off, none⟩), .int .i64 bn, .int .i64 dp]] w fun e w' => e = .returned (.tuple #[.int .i64 (freeV k i bn), .bool (isFree k i bn)]) ∧ Below w.heap.size w w' := by
  have g0 : ∀ o, (w.alloc o).cell? ⟨b, off, none⟩ = some (.int .i64 k) := fun o => (World.cell?_alloc_lt w o ⟨b, off, none⟩ hb).trans h0
  have g1 : ∀ o, (w.alloc o).cell? ⟨b, off + 1, none⟩ = some (.int .i64 i) := fun o => (World.cell?_alloc_lt w o ⟨b, off + 1, none⟩ hb).trans h1
  clear h0 h1
  cases hk : (k != 0) with
  | true =>
    have e1 : isFree k i bn = false := by unfold isFree; rw [hk]; rfl
    have e2 : freeV k i bn = 0 := by unfold freeV; rw [e1, if_neg (by decide)]
    rw [e1, e2]
    clear e1 e2
    go_enter Tryd.func47, Tryd.ntmps47
    go_wp2_with fail
    go_quiet (fail)
    go_wp2_with fail
    exact bodyPost_ret (v := .tuple #[.int .i64 0, .bool false]) (by simp [results, Tryd.results47, go_sem]) rfl ⟨rfl, Below.drewN' ((Below.refl _ _).alloc (Nat.le_refl _) _) _⟩
  | false =>
    cases hi : decide (i < bn) with
    | true =>
      have e1 : isFree k i bn = false := by unfold isFree; rw [hk, hi]; rfl
      have e2 : freeV k i bn = 0 := by unfold freeV; rw [e1, if_neg (by decide)]
      rw [e1, e2]
      clear e1 e2
      go_enter Tryd.func47, Tryd.ntmps47
      go_wp2_with fail
      go_quiet (fail)
      go_wp2_with fail
      exact bodyPost_ret (v := .tuple #[.int .i64 0, .bool false]) (by simp [results, Tryd.results47, go_sem]) rfl ⟨rfl, Below.drewN' ((Below.refl _ _).alloc (Nat.le_refl _) _) _⟩
    | false =>
      have e1 : isFree k i bn = true := by unfold isFree; rw [hk, hi]; rfl
      have e2 : freeV k i bn = wrap64 (i - bn) := by unfold freeV; rw [e1, if_pos rfl]
      rw [e1, e2]
      clear e1 e2
      go_enter Tryd.func47, Tryd.ntmps47
      go_wp2_with fail
      go_quiet (fail)
      go_wp2_with fail
      go_quiet (fail)
      go_wp2_with fail
      exact bodyPost_ret (v := .tuple #[.int .i64 (wrap64 (i - bn)), .bool true]) (by simp [results, Tryd.results47, go_sem]) rfl ⟨rfl, Below.drewN' (Below.drewN' ((Below.refl _ _).alloc (Nat.le_refl _) _) _) _⟩

attribute [local go_sem] Oper.semAt_some
/-- The node is a free occurrence of the variable. -/
def hit (x : Int) (n : Nd) : Bool := match n.t with | .mk k i _ _ _ => isFree k i n.b && (freeV k i n.b == x)
/-- A variable is free in a term. -/
def Occ (x : Int) (t : Tm) : Prop := ∃ n ∈ preT t 0 1, hit x n = true
instance (x : Int) (t : Tm) : Decidable (Occ x t) := by unfold Occ; infer_instance
theorem mem_occ {x : Int} {t : Tm} : Occ x t ↔ ∃ n ∈ preT t 0 1, hit x n = true := Iff.rfl
set_option maxRecDepth 100000 in
set_option maxHeartbeats 8000000 in
theorem occurs_any (t : Tm) (v : Value) (x0 : Int) (B : Nat) (w : World) (hv : TmV w B t v) (hB : B ≤ w.heap.size) (hB0 : 0 < B) (hsh : ShapesB w) (hsz : szT t ≤ 1000000000) :
    Calls Tryd.prog 24 #[v, .int .i64 x0] w fun e w' => e = .returned (.bool (decide (Occ x0 t))) ∧ Below w.heap.size w w' := by
  have HV := Lib.hid hv
  obtain ⟨k, i, nm, AL, nl, cl, AK, ck, rfl, _, _⟩ := hv.open_
  clear hv
  refine (callsIn_wide (n := 6)).1 ?_
  refine callsIn_of_wp_marks Tryd.func24 rfl trivial ?_ rfl
  simp only [Tryd.ntmps24, List.size_toArray, List.length_cons, List.length_nil, Nat.reduceAdd, Nat.reduceSub, Array.replicate_succ, Array.replicate_zero, List.push_toArray, List.append_toArray, List.nil_append, List.cons_append]
  gi_wp2_with fail
  obtain ⟨W0, hW0⟩ : ∃ W0, W0 = ((w.alloc (.cells #[.int .i64 k, .int .i64 i, .string nm, .slice AL nl cl, .slice AK t.kids.length ck] 25)).alloc (.cells #[.int .i64 x0] 3)).alloc (.cells #[.bool false] 4) := ⟨_, rfl⟩
  rw [← hW0]
  have hs0 : W0.heap.size = w.heap.size + 1 + 1 + 1 := by rw [hW0]; simp
  have hb0 : Below w.heap.size w W0 := by rw [hW0]; exact (((Below.refl _ _).alloc (Nat.le_refl _) _).alloc (by simp) _).alloc (by simp; omega) _
  have q1 : Boxed W0 (w.heap.size + 1) 3 (.int .i64 x0) := by
    rw [hW0]
    have h := (Boxed.new (w.alloc (.cells #[.int .i64 k, .int .i64 i, .string nm, .slice AL nl cl, .slice AK t.kids.length ck] 25)) 3 (.int .i64 x0)).alloc (.cells #[.bool false] 4)
    rw [World.size_alloc] at h
    exact h
  have q2 : Boxed W0 (w.heap.size + 1 + 1) 4 (.bool false) := by
    rw [hW0]
    have h := Boxed.new ((w.alloc (.cells #[.int .i64 k, .int .i64 i, .string nm, .slice AL nl cl, .slice AK t.kids.length ck] 25)).alloc (.cells #[.int .i64 x0] 3)) 4 (.bool false)
    simpa only [World.size_alloc] using h
  clear hW0
  refine ⟨trivial, ?_⟩
  refine (nodes_in _ k i nm AL nl cl AK _ ck _).mono ?_
  rintro e w3 ⟨rfl, hw3⟩
  rw [hs0]
  have hb3 : Below w.heap.size w w3 := by rw [hw3]; exact hb0.alloc (by omega) _
  have hbW : Below W0.heap.size W0 w3 := by rw [hw3]; exact (Below.refl _ _).alloc (Nat.le_refl _) _
  have hs3 : w.heap.size + 1 + 1 + 1 < w3.heap.size := by rw [hw3]; simp; omega
  have ht3 : w3.heap[w.heap.size + 1 + 1 + 1]? = some (.cells #[.int .i64 k, .int .i64 i, .string nm, .slice AL nl cl, .slice AK t.kids.length ck] 25 (0, 0)) := by
    have h := World.alloc_heap_new W0 (.cells #[.int .i64 k, .int .i64 i, .string nm, .slice AL nl cl, .slice AK t.kids.length ck] 25)
    rw [← hw3, hs0] at h
    exact h
  replace q1 := (hbW.block _ (by omega)).trans q1
  replace q2 := (hbW.block _ (by omega)).trans q2
  have hcell : ∀ j u, (#[Value.int .i64 k, .int .i64 i, .string nm, .slice AL nl cl, .slice AK t.kids.length ck] : Array Value)[j]? = some u → w3.cell? ⟨w.heap.size + 1 + 1 + 1, j, none⟩ = some u := fun j u h => (cell_of_row _ _ _ _ _ _ ht3).trans h
  have hroot : NodeAt w3 (w.heap.size + 1 + 1 + 1) (w.heap.size + 1 + 1 + 1) ⟨⟨t, 0, 1⟩, w.heap.size + 1 + 1 + 1, 0⟩ :=
    ⟨.inr rfl, _, _, _, _, _, hcell 0 _ rfl, hcell 1 _ rfl, hcell 2 _ rfl, hcell 3 _ rfl, hcell 4 _ rfl, ((HV.out.more hB).below hb3 (Nat.le_refl _)).more (by omega)⟩
  have hsh3 : ShapesB w3 := fun k hk => (hb3.cell (p := ⟨0, k * 5 + 4, none⟩) (by show 0 < w.heap.size; omega)).trans (hsh k hk)
  clear hw3 ht3 hcell hsh hb0 hbW hs0
  gi_wp2_with fail
  refine wpIn_rangeB rfl (by decide) (gf := 65) (lb := #[.pointer (some ⟨w.heap.size + 1 + 1 + 1, 0, none⟩)]) rfl trivial (enters_of Tryd.func65 (by kernel_rfl) rfl)
    (Kp := KAt (w.heap.size + 1 + 1 + 1) (w.heap.size + 1 + 1 + 1)) (nd_seq 5 (by decide) (w.heap.size + 1 + 1 + 1) (w.heap.size + 1 + 1 + 1) t w3 hroot hsh3 (by omega) hsz ⟨by omega, by omega⟩) (fun h k => KAt.trans h k)
    (fun W l o h1 h2 => KAt.grown (grownBy_putObj' W l o) (by omega) (by omega) (fun r e => by cases e; omega)) (fun _ => rfl)
    (fun pre W => KAt (w.heap.size + 1 + 1 + 1) (w.heap.size + 1 + 1 + 1) w3 W ∧ ∀ a ∈ pre, hit x0 a.nd = false)
    (fun c pre W => c = .ret ∧ Below w.heap.size w W ∧ (∃ a ∈ pre, hit x0 a.nd = true) ∧ Boxed W (w.heap.size + 1 + 1) 4 (.bool true)) ?hI ?hIx ⟨KAt.refl _ _ _, fun n h => by cases h⟩
    (fun x a' W => ∃ Bx, w3.heap.size + 2 ≤ Bx ∧ W.heap[Bx]? = some (.cells #[.pointer (some ⟨x.blk, x.off, none⟩), .int .i64 x.nd.b, .int .i64 x.nd.d] 85 (0, 0)) ∧ a' = { tmps := #[.agg #[.int .i64 k, .int .i64 i, .string nm, .slice AL nl cl, .slice AK t.kids.length ck], .int .i64 x0, .pointer (some ⟨w.heap.size, 0, none⟩), .pointer (some ⟨w.heap.size + 1, 0, none⟩), .pointer (some ⟨w.heap.size + 1 + 1, 0, none⟩), .pointer (some ⟨Bx, 0, none⟩), undef, undef, .agg #[.int .i64 k, .int .i64 i, .string nm, .slice AL nl cl, .slice AK t.kids.length ck], .func (.func 65) #[] #[.pointer (some ⟨w.heap.size + 1 + 1 + 1, 0, none⟩)], .agg #[.pointer (some ⟨x.blk, x.off, none⟩), .int .i64 x.nd.b, .int .i64 x.nd.d], undef, undef, undef, undef, undef, undef, undef, undef, undef, undef, undef], defers := [] })
    (fun x a' W o ⟨Bx, h1, h2, h3⟩ => ⟨Bx, h1, (World.putObj_heap_other (by omega)).trans h2, h3⟩) ?assign ?body ?done ?stop
  case hI =>
    rintro pre W W' ⟨h3, h4⟩ hb
    exact ⟨h3.trans ⟨hb.mono (by omega), hb.block _ (by omega)⟩, h4⟩
  case hIx =>
    rintro c pre W W' ⟨h1, h2, h3, h6⟩ hb
    exact ⟨h1, h2.trans (hb.mono (by omega)), h3, (hb.block _ (by omega)).trans h6⟩
  case assign =>
    intro l pre x W K hs hgd hi hK
    simp only [encN]
    gi_wp2_with fail
    refine hK _ _ (HighB.grown (World.grownBy_alloc _ _ none) (fun r e => by cases e)) (KAt.grown (World.grownBy_alloc _ _ none) (by omega) (by omega) (fun r e => by cases e)) ⟨hi.1.trans (KAt.grown (World.grownBy_alloc _ _ none) (by omega) (by omega) (fun r e => by cases e)), hi.2⟩ ⟨W.heap.size, hs, World.alloc_heap_new _ _, ?_⟩
    rfl
  case body =>
    rintro pre x a' W hs hgd ⟨hk, hz⟩ ⟨Bx, hBx, hcx, rfl⟩ hlt
    have hxw := hgd.keep hk
    obtain ⟨xk, xi, xnm, xls, xks, xAL, xcl, xAK, xck, hxt, h0, h1, h2, h3, h4, hlv⟩ := hxw.full
    have f0 : W.cell? ⟨Bx, 0, none⟩ = some (.pointer (some ⟨x.blk, x.off, none⟩)) := cell_of_row _ _ _ _ _ _ hcx
    have f1 : W.cell? ⟨Bx, 1, none⟩ = some (.int .i64 x.nd.b) := cell_of_row _ _ _ _ _ _ hcx
    have f2 : W.cell? ⟨Bx, 2, none⟩ = some (.int .i64 x.nd.d) := cell_of_row _ _ _ _ _ _ hcx
    have hCK := Lib.hid (free_any x.blk x.off xk xi x.nd.b x.nd.d W h0 h1 (World.block_lt_of_cell? W _ h0))
    have HT : Hid (hit x0 x.nd = (isFree xk xi x.nd.b && (freeV xk xi x.nd.b == x0))) := Lib.hid (by
      unfold hit
      rw [hxt])
    have HZ := Lib.hid hz
    have q1W : Boxed W (w.heap.size + 1) 3 (.int .i64 x0) := (hk.below.block _ (by omega)).trans q1
    have q2W : Boxed W (w.heap.size + 1 + 1) 4 (.bool false) := (hk.below.block _ (by omega)).trans q2
    clear h0 h1 h2 h3 h4 hlv hxw hxt hz
    gi_wp2_with fail
    refine ⟨trivial, ?_⟩
    refine (callsIn_wide.2 hCK.out).mono ?_
    clear hCK
    rintro e w2 ⟨rfl, hb2⟩
    have hs2 := hb2.size
    replace q1W : Boxed w2 (w.heap.size + 1) 3 (.int .i64 x0) := (hb2.block _ (by omega)).trans q1W
    replace q2W : Boxed w2 (w.heap.size + 1 + 1) 4 (.bool false) := (hb2.block _ (by omega)).trans q2W
    have hkw2 : KAt (w.heap.size + 1 + 1 + 1) (w.heap.size + 1 + 1 + 1) W w2 := ⟨hb2.mono (by omega), hb2.block _ (by omega)⟩
    have hhi : HighB w3.heap.size W w2 := ⟨hb2.size, fun r _ h => hb2.block r h⟩
    have c1 := q1W.cell
    have c2 := q2W.cell
    have c2f := q2W.frozen
    have hbW : Below w.heap.size w w2 := (hb3.trans (hk.below.mono (by omega))).trans (hb2.mono (by omega))
    have HKW := Lib.hid (And.intro hk (And.intro hkw2 (And.intro hhi (And.intro q2W hbW))))
    clear hb2 f0 f1 f2 hcx hk hkw2 hhi q1W q2W hbW
    have hno : hit x0 x.nd = false → ∀ a ∈ pre ++ [x], hit x0 a.nd = false := fun hh a ha => by
      rcases List.mem_append.1 ha with ha | ha
      · exact HZ.out a ha
      · rw [List.mem_singleton] at ha; rw [ha]; exact hh
    have HNO := Lib.hid hno
    clear hno
    cases hf : isFree xk xi x.nd.b with
    | false =>
      have HX := Lib.hid (HNO.out (by rw [HT.out, hf]; rfl))
      clear HNO hf
      gi_wp2_with fail
      obtain ⟨hk, hkw2, hhi, hq, hbW⟩ := HKW.out
      exact ⟨hhi, hkw2, hk.trans hkw2, HX.out⟩
    | true =>
      generalize freeV xk xi x.nd.b = fv at *
      by_cases he : fv = x0
      · subst he
        have HX : Hid (hit fv x.nd = true) := Lib.hid (by rw [HT.out, hf]; simp)
        clear HNO hf
        gi_wp2_with fail
        obtain ⟨hk, hkw2, hhi, hq, hbW⟩ := HKW.out
        refine ⟨hhi.trans (HighB.grown (grownBy_setCell' _ _ _) (fun r e => by cases e; omega)), rfl, hbW.grown (grownBy_setCell' _ _ _) (by omega) (fun r e => by cases e; omega), ⟨x, List.mem_append_right _ (List.mem_singleton.2 rfl), HX.out⟩, hq.set _⟩
      · have hde : (fv == x0) = false := by simpa using he
        have HX := Lib.hid (HNO.out (by rw [HT.out, hf, hde]; rfl))
        clear HNO hf he
        gi_wp2_with fail
        obtain ⟨hk, hkw2, hhi, hq, hbW⟩ := HKW.out
        exact ⟨hhi, hkw2, hk.trans hkw2, HX.out⟩
  case done =>
    rintro xs W hs hS ⟨hk, hz⟩ hD
    have HN : Hid (decide (Occ x0 t) = false) := Lib.hid (by
      rw [decide_eq_false_iff_not, mem_occ, ← hS]
      rintro ⟨n, hn, hh⟩
      obtain ⟨a, ha, rfl⟩ := List.mem_map.1 hn
      rw [hz a ha] at hh
      cases hh)
    have q2W : Boxed W (w.heap.size + 1 + 1) 4 (.bool false) := (hk.below.block _ (by omega)).trans q2
    have c2 := q2W.cell
    have c2f := q2W.frozen
    have HW := Lib.hid (And.intro hk (And.intro hb3 (And.intro q2W hD)))
    clear hz hS hk hD q2W
    gi_wp2_with fail
    obtain ⟨hk, hb3, hr, hD⟩ := HW.out
    have hD' : (W.setCell ⟨w.heap.size + 1 + 1, 0, none⟩ (.bool false)).heap[w3.heap.size]? = some (.deferred (some [])) := (Below.heap_setCell _ _ _ _ (by show w3.heap.size ≠ w.heap.size + 1 + 1; omega)).trans hD
    refine ⟨by simp, .inl ⟨_, _, rfl, run_takeDeferred hD', ?_⟩⟩
    have hr1 : ((W.setCell ⟨w.heap.size + 1 + 1, 0, none⟩ (.bool false)).putObj w3.heap.size (.deferred none)).cell? ⟨w.heap.size + 1 + 1, 0, none⟩ = some (.bool false) := (World.cell?_of_block (a := ⟨w.heap.size + 1 + 1, 0, none⟩) (World.putObj_heap_other (by show w.heap.size + 1 + 1 ≠ w3.heap.size; omega))).trans (hr.set _).cell
    refine ⟨.bool false, by simp [results, Tryd.results24, go_sem, hr1], ret_bool HN.out.symm, ?_⟩
    exact (((hb3.trans (hk.below.mono (by omega))).grown (grownBy_setCell' W _ _) (by omega) (fun r e => by cases e; omega))).grown (grownBy_putObj' _ w3.heap.size (.deferred none)) (by have := (grownBy_setCell' W (w.heap.size + 1 + 1) (.bool false)).size; omega) (fun r e => by cases e; omega)
  case stop =>
    rintro c pre W ⟨tl, hS⟩ ⟨rfl, hbl, ⟨a, ha, hh⟩, hr⟩ hD
    have HN : Hid (decide (Occ x0 t) = true) := Lib.hid (by
      rw [decide_eq_true_iff, mem_occ, ← hS]
      exact ⟨a.nd, List.mem_append_left _ (List.mem_map.2 ⟨a, ha, rfl⟩), hh⟩)
    have hsW := hbl.size
    have hDl := (Array.getElem?_eq_some_iff.1 hD).1
    gi_wp2_with fail
    refine ⟨by simp, .inl ⟨_, _, rfl, run_takeDeferred hD, ?_⟩⟩
    have hr1 : (W.putObj w3.heap.size (.deferred none)).cell? ⟨w.heap.size + 1 + 1, 0, none⟩ = some (.bool true) := (World.cell?_of_block (a := ⟨w.heap.size + 1 + 1, 0, none⟩) (World.putObj_heap_other (by show w.heap.size + 1 + 1 ≠ w3.heap.size; omega))).trans hr.cell
    refine ⟨.bool true, by simp [results, Tryd.results24, go_sem, hr1], ret_bool HN.out.symm, ?_⟩
    exact hbl.grown (grownBy_putObj' W w3.heap.size (.deferred none)) (by omega) (fun r e => by cases e; omega)
end Go.Proofs.YtobaeeobfcffoaaDoor
