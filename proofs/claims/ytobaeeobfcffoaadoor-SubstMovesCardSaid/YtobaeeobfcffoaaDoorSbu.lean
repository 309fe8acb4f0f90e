/- build: the deferred closure's two ways; what build returns. -/
import Derived.Test.YtobaeeobfcffoaaDoorCpd
import Derived.Recover
import Derived.Defers
import Derived.Laws.Pointers
/-! build: the deferred closure's two ways; what build returns. -/
namespace Go.Proofs.YtobaeeobfcffoaaDoor
open Go.RowKit
set_option maxRecDepth 100000 in
theorem build1_idle (p q : Addr) (w : World) :
    CallsD Tryd.prog 55 #[.pointer (some p), .pointer (some q)] .returning w fun e u' w' => e = .returned (.tuple #[]) ∧ u' = .returning ∧ w' = w := by
  refine callsD_of_wpS Tryd.func55 rfl fun c₀ cs hu => ?_
  apply wpS_seq
  apply wpS_region
  simp [wpOpsS, go_sem, recoverD, hu, Tryd.ntmps55, Exit.thenS]
  refine wpS_cond (t := false) (by simp [Act.eval, Array.replicate]) ?_
  simp only [Bool.false_eq_true, if_false]
  refine wpS_of_wp (wp_skip ?_)
  cases c₀
  simp_all [bodyPostS, results, Tryd.results55]
set_option maxRecDepth 100000 in
theorem build1_panic (b c : Nat) (c0 c1 c2 c3 c4 e0 : Value) (u : TypeId) (pv : Value) (older : List PanicEntry) (w : World)
    (x0 : w.cell? ⟨b, 0, none⟩ = some c0) (x1 : w.cell? ⟨b, 1, none⟩ = some c1) (x2 : w.cell? ⟨b, 2, none⟩ = some c2) (x3 : w.cell? ⟨b, 3, none⟩ = some c3) (x4 : w.cell? ⟨b, 4, none⟩ = some c4) (y0 : w.cell? ⟨c, 0, none⟩ = some e0)
    (f0 : w.frozen? ⟨b, 0, none⟩ = false) (f1 : w.frozen? ⟨b, 1, none⟩ = false) (f2 : w.frozen? ⟨b, 2, none⟩ = false) (f3 : w.frozen? ⟨b, 3, none⟩ = false) (f4 : w.frozen? ⟨b, 4, none⟩ = false) (g0 : w.frozen? ⟨c, 0, none⟩ = false) (hbc : ¬ b = c) :
    CallsD Tryd.prog 55 #[.pointer (some ⟨b, 0, none⟩), .pointer (some ⟨c, 0, none⟩)] (.panicking ({ v := .iface u pv, recovered := false } :: older)) w fun e u' w' =>
      e = .returned (.tuple #[]) ∧ u' = .panicking ({ v := .iface u pv, recovered := true } :: older) ∧ w' = (set5 w b 0 (.int .i64 0) (.int .i64 0) (.string ⟨#[]⟩) (.slice none 0 0) (.slice none 0 0)).setCell ⟨c, 0, none⟩ (.int .i64 5) := by
  refine callsD_of_wpS Tryd.func55 rfl fun c₀ cs hu => ?_
  apply wpS_seq
  apply wpS_region
  simp [wpOpsS, go_sem, recoverD, hu, Tryd.ntmps55, Exit.thenS]
  refine wpS_cond (t := true) (by simp [Act.eval, Array.replicate]) ?_
  simp only [if_true]
  apply wpS_region
  have hne : ∀ o, (⟨c, 0, none⟩ : Addr) ≠ ⟨b, o, none⟩ := fun o e => hbc (by injection e with e _ _; exact e.symm)
  simp [wpOpsS, go_sem, x0, x1, x2, x3, x4, y0, f0, f1, f2, f3, f4, g0, bodyPostS, results, Tryd.results55, set5, Array.replicate]
section
variable {pb : Nat} {Old : Nat → Prop} {Inv : Nat → Nat → Nat → Int → World → Prop} {M : World → Nat → Prop}
/-- What build leaves of the world in which it calls copied: its own two result cells, and the walk's blocks, may have been written. -/
structure Fb (M : World → Nat → Prop) (s : Nat) (w1 wx : World) : Prop where
  os : wx.os = w1.os
  tape : wx.tape = w1.tape
  output : wx.output = w1.output
  size : w1.heap.size ≤ wx.heap.size
  block : ∀ q, q < w1.heap.size → ¬ M w1 q → q ≠ s + 1 → q ≠ s + 1 + 1 → wx.heap[q]? = w1.heap[q]?
theorem Fb.of {s : Nat} {w1 wx : World} (h : Kp M w1 wx) : Fb M s w1 wx := ⟨h.os, h.tape, h.output, h.size, fun q hq hm _ _ => h.block q hq hm⟩
theorem set5_heap {w : World} {b o q : Nat} {v0 v1 v2 v3 v4 : Value} (hne : q ≠ b) : (Go.Proofs.YtobaeeobfcffoaaDoor.set5 w b o v0 v1 v2 v3 v4).heap[q]? = w.heap[q]? := by
  unfold Go.Proofs.YtobaeeobfcffoaaDoor.set5
  rw [Below.heap_setCell _ _ _ _ hne, Below.heap_setCell _ _ _ _ hne, Below.heap_setCell _ _ _ _ hne, Below.heap_setCell _ _ _ _ hne, Below.heap_setCell _ _ _ _ hne]
theorem Fb.one {s : Nat} {w1 wx : World} (h : Fb M s w1 wx) {b : Nat} (hb : b = s + 1 ∨ b = s + 1 + 1) (j : Nat) (v : Value) : Fb M s w1 (wx.setCell ⟨b, j, none⟩ v) :=
  ⟨h.os, h.tape, h.output, by simpa [World.setCell] using h.size, fun q hq hm1 h1 h2 => (Below.heap_setCell _ _ _ _ (by show q ≠ b; omega)).trans (h.block q hq hm1 h1 h2)⟩
theorem Fb.fin {s : Nat} {w1 wx : World} (h : Fb M s w1 wx) (v0 v1 v2 v3 v4 u : Value) : Fb M s w1 ((Go.Proofs.YtobaeeobfcffoaaDoor.set5 wx (s + 1) 0 v0 v1 v2 v3 v4).setCell ⟨s + 1 + 1, 0, none⟩ u) := by
  unfold Go.Proofs.YtobaeeobfcffoaaDoor.set5
  exact (((((h.one (.inl rfl) 0 v0).one (.inl rfl) (0 + 1) v1).one (.inl rfl) (0 + 2) v2).one (.inl rfl) (0 + 3) v3).one (.inl rfl) (0 + 4) v4).one (.inr rfl) 0 u
/-- One cell of a result is written. -/
theorem one_still {wx : World} {b j : Nat} {v : Value} (ho : ¬ Old b) (hm : ¬ M wx b) : Still Old M wx (wx.setCell ⟨b, j, none⟩ v) := ⟨by simp [World.setCell], fun q hq _ => Below.heap_setCell _ _ _ _ (by rintro rfl; exact hq.elim ho hm)⟩
theorem Fb.set (hB : Bld pb Old Inv M) {s d n f : Nat} {e : Int} {w1 wx : World} (h : Fb M s w1 wx) (hi : Inv d n f e wx) {b j : Nat} {v : Value} (hb : b = s + 1 ∨ b = s + 1 + 1) (ho : ¬ Old b) (hm : ¬ M wx b) : Fb M s w1 (wx.setCell ⟨b, j, none⟩ v) ∧ Inv d n f e (wx.setCell ⟨b, j, none⟩ v) ∧ ∀ q, M (wx.setCell ⟨b, j, none⟩ v) q → M wx q := by
  have hs := hB.still hi (one_still (Old := Old) (M := M) (j := j) (v := v) ho hm)
  exact ⟨⟨h.os, h.tape, h.output, by simpa [World.setCell] using h.size, fun q hq hm1 h1 h2 => (Below.heap_setCell _ _ _ _ (by show q ≠ b; omega)).trans (h.block q hq hm1 h1 h2)⟩, hs.1, hs.2⟩
theorem Fb.set5 (hB : Bld pb Old Inv M) {s d n f : Nat} {e : Int} {w1 wx : World} (h : Fb M s w1 wx) (hi : Inv d n f e wx) {b o : Nat} {v0 v1 v2 v3 v4 : Value} (hb : b = s + 1 ∨ b = s + 1 + 1) (ho : ¬ Old b) (hm : ¬ M wx b) : Fb M s w1 (set5 wx b o v0 v1 v2 v3 v4) ∧ Inv d n f e (set5 wx b o v0 v1 v2 v3 v4) ∧ ∀ q, M (set5 wx b o v0 v1 v2 v3 v4) q → M wx q := by
  have h0 := h.set hB hi (j := o) (v := v0) hb ho hm
  have h1 := h0.1.set hB h0.2.1 (j := o + 1) (v := v1) hb ho (fun h => hm (h0.2.2 _ h))
  have h2 := h1.1.set hB h1.2.1 (j := o + 2) (v := v2) hb ho (fun h => hm (h0.2.2 _ (h1.2.2 _ h)))
  have h3 := h2.1.set hB h2.2.1 (j := o + 3) (v := v3) hb ho (fun h => hm (h0.2.2 _ (h1.2.2 _ (h2.2.2 _ h))))
  have h4 := h3.1.set hB h3.2.1 (j := o + 4) (v := v4) hb ho (fun h => hm (h0.2.2 _ (h1.2.2 _ (h2.2.2 _ (h3.2.2 _ h)))))
  exact ⟨h4.1, h4.2.1, fun q hq => h0.2.2 _ (h1.2.2 _ (h2.2.2 _ (h3.2.2 _ (h4.2.2 _ hq))))⟩
theorem one_tm (hB : Bld pb Old Inv M) {d n f : Nat} {e : Int} {w : World} {b j : Nat} {v0 : Value} (hi : Inv d n f e w) (hno : ¬ Old b) (hnm : ¬ M w b) {P : Nat → Prop} (hp : ∀ q, P q → q ≠ b) {t : Tm} {v : Value} (h : TmP w (fun q => P q ∧ ¬ M w q) t v) : TmP (w.setCell ⟨b, j, none⟩ v0) (fun q => P q ∧ ¬ M (w.setCell ⟨b, j, none⟩ v0) q) t v :=
  TmP.mono (fun k hk _ => ⟨hk.1, fun h => hk.2 ((hB.still hi (one_still hno hnm)).2 k h)⟩) t v (TmP.keep (fun p hpp => World.cell?_setCell_other _ _ _ _ (by rintro rfl; exact hp _ hpp.1 rfl)) t v h)
/-- How build ends. -/
def BOut (Old : Nat → Prop) (Inv : Nat → Nat → Nat → Int → World → Prop) (M : World → Nat → Prop) (s : Nat) (x : Ou) (w1 : World) (e : Ending) (w' : World) : Prop :=
  Fb M s w1 w' ∧ ((4096 < x.n ∧ e = .returned (.tuple #[zeroV, .int .i64 5])) ∨ (x.n ≤ 4096 ∧ x.e ≠ 0 ∧ e = .returned (.tuple #[zeroV, .int .i64 x.e])) ∨
    (x.n ≤ 4096 ∧ x.e = 0 ∧ ∃ k i nm AL nl cl AK nk ck, e = .returned (.tuple #[.agg #[.int .i64 k, .int .i64 i, .string nm, .slice AL nl cl, .slice AK nk ck], .int .i64 0]) ∧ TmP w' (Rs Old M w1 w') x.t (.agg #[.int .i64 k, .int .i64 i, .string nm, .slice AL nl cl, .slice AK nk ck]) ∧ Inv 1 x.n x.f 0 w'))
/-- The world in which build calls copied. -/
def bw (w : World) (v : Array Value) : World := (((w.alloc (.cells v 25)).alloc (.cells #[.int .i64 0, .int .i64 0, .string ⟨#[]⟩, .slice none 0 0, .slice none 0 0] 25)).alloc (.cells #[.int .i64 0] 28)).alloc (.cells #[.int .i64 0, .int .i64 0] 99)
theorem bw_size (w : World) (v : Array Value) : (bw w v).heap.size = w.heap.size + 1 + 1 + 1 + 1 := by simp [bw]

/-- The results, written at the end. -/
theorem res_any (hB : Bld pb Old Inv M) {s d n f : Nat} {e : Int} {w1 wx : World} (h : Fb M s w1 wx) (hi : Inv d n f e wx) (hx : ∀ i, i < 5 → ∃ u, wx.cell? ⟨s + 1, 0 + i, none⟩ = some u) (hy : ∃ u, wx.cell? ⟨s + 1 + 1, 0, none⟩ = some u) (h1 : ¬ Old (s + 1)) (h2 : ¬ Old (s + 1 + 1)) (m1 : ¬ M wx (s + 1)) (m2 : ¬ M wx (s + 1 + 1)) (v0 v1 v2 v3 v4 u : Value) :
    Fb M s w1 ((set5 wx (s + 1) 0 v0 v1 v2 v3 v4).setCell ⟨s + 1 + 1, 0, none⟩ u) ∧ Inv d n f e ((set5 wx (s + 1) 0 v0 v1 v2 v3 v4).setCell ⟨s + 1 + 1, 0, none⟩ u) ∧ (((set5 wx (s + 1) 0 v0 v1 v2 v3 v4).setCell ⟨s + 1 + 1, 0, none⟩ u).cell? ⟨s + 1, 0, none⟩ = some v0 ∧ ((set5 wx (s + 1) 0 v0 v1 v2 v3 v4).setCell ⟨s + 1 + 1, 0, none⟩ u).cell? ⟨s + 1, 1, none⟩ = some v1 ∧ ((set5 wx (s + 1) 0 v0 v1 v2 v3 v4).setCell ⟨s + 1 + 1, 0, none⟩ u).cell? ⟨s + 1, 2, none⟩ = some v2 ∧ ((set5 wx (s + 1) 0 v0 v1 v2 v3 v4).setCell ⟨s + 1 + 1, 0, none⟩ u).cell? ⟨s + 1, 3, none⟩ = some v3 ∧ ((set5 wx (s + 1) 0 v0 v1 v2 v3 v4).setCell ⟨s + 1 + 1, 0, none⟩ u).cell? ⟨s + 1, 4, none⟩ = some v4) ∧ ((set5 wx (s + 1) 0 v0 v1 v2 v3 v4).setCell ⟨s + 1 + 1, 0, none⟩ u).cell? ⟨s + 1 + 1, 0, none⟩ = some u ∧
      ∀ {P : Nat → Prop} {t : Tm} {v : Value}, (∀ q, P q → q ≠ s + 1 ∧ q ≠ s + 1 + 1) → TmP wx (fun q => P q ∧ ¬ M wx q) t v → TmP ((set5 wx (s + 1) 0 v0 v1 v2 v3 v4).setCell ⟨s + 1 + 1, 0, none⟩ u) (fun q => P q ∧ ¬ M ((set5 wx (s + 1) 0 v0 v1 v2 v3 v4).setCell ⟨s + 1 + 1, 0, none⟩ u) q) t v := by
  have ha := h.set5 hB hi (o := 0) (v0 := v0) (v1 := v1) (v2 := v2) (v3 := v3) (v4 := v4) (.inl rfl) h1 m1
  have m2' : ¬ M (set5 wx (s + 1) 0 v0 v1 v2 v3 v4) (s + 1 + 1) := fun h => m2 (ha.2.2 _ h)
  have hb := ha.1.set hB ha.2.1 (j := 0) (v := u) (.inr rfl) h2 m2'
  have h5 := set5_at (v0 := v0) (v1 := v1) (v2 := v2) (v3 := v3) (v4 := v4) hx
  simp only [Nat.zero_add] at h5
  have hf : ∀ {j : Nat} {c : Value}, (set5 wx (s + 1) 0 v0 v1 v2 v3 v4).cell? ⟨s + 1, j, none⟩ = some c → ((set5 wx (s + 1) 0 v0 v1 v2 v3 v4).setCell ⟨s + 1 + 1, 0, none⟩ u).cell? ⟨s + 1, j, none⟩ = some c := fun {j c} hc => (World.cell?_setCell_other _ _ _ _ (by intro e; injection e with e _ _; omega)).trans hc
  obtain ⟨u0, hu⟩ := hy
  have hy' : (set5 wx (s + 1) 0 v0 v1 v2 v3 v4).cell? ⟨s + 1 + 1, 0, none⟩ = some u0 := (set5_far (by show s + 1 + 1 ≠ s + 1; omega)).trans hu
  exact ⟨hb.1, hb.2.1, ⟨hf h5.1, hf h5.2.1, hf h5.2.2.1, hf h5.2.2.2.1, hf h5.2.2.2.2⟩, set_same hy', fun {P t v} hp ht => one_tm hB ha.2.1 h2 m2' (fun q hq => (hp q hq).2) (set5_tm hB hi h1 m1 (fun q hq => (hp q hq).1) ht)⟩

set_option maxRecDepth 100000 in
set_option maxHeartbeats 2000000 in
theorem build_any {w : World} {k i : Int} {nm : ByteArray} {AL : Option Addr} {nl cl : Nat} {AK : Option Addr} {nk ck : Nat} (hB : Bld (w.heap.size + 1 + 1 + 1) Old Inv M) {Q : Tm → Nat → Prop} {fn : FuncId} {cap : Array Value} {R : Tm → Nat → Option Ou} (hrep : Rep (w.heap.size + 1 + 1 + 1) Old Inv M Q fn cap R) (hfn : ∀ (a : Array Value) (w : World), (callFunc fn a).run Tryd.prog w = .ok (.enter fn a) w) (t : Tm) (hsz : szT t ≤ 1000000) (hq : AllT Q t 0)
    (hM : ∀ q, M (bw w #[.int .i64 k, .int .i64 i, .string nm, .slice AL nl cl, .slice AK nk ck]) q → q ≠ w.heap.size + 1 ∧ q ≠ w.heap.size + 1 + 1) (hO : ∀ q, Old q → q ≠ w.heap.size + 1 ∧ q ≠ w.heap.size + 1 + 1)
    (htm : TmP (bw w #[.int .i64 k, .int .i64 i, .string nm, .slice AL nl cl, .slice AK nk ck]) Old t (.agg #[.int .i64 k, .int .i64 i, .string nm, .slice AL nl cl, .slice AK nk ck])) (hi : Inv 0 0 0 0 (bw w #[.int .i64 k, .int .i64 i, .string nm, .slice AL nl cl, .slice AK nk ck])) :
    Calls Tryd.prog 29 #[.agg #[.int .i64 k, .int .i64 i, .string nm, .slice AL nl cl, .slice AK nk ck], .func (.func fn) #[] cap] w (BOut Old Inv M w.heap.size (cpT R t 0) (bw w #[.int .i64 k, .int .i64 i, .string nm, .slice AL nl cl, .slice AK nk ck])) := by
  have hmf : ∀ (fn : Fn) (first cap : Array Value) (w : World), (Instr.makeFunc fn first cap).run Tryd.prog w = .ok (.func fn first cap) w := fun _ _ _ _ => rfl
  have HC := Lib.hid (copied_any hB hrep hfn 1000000 t _ 0 0 0 0 _ hsz (by omega) hq htm hi (by omega))
  have HX := Lib.hid (show Bx M Old (w.heap.size + 1) (.int .i64 0) (.int .i64 0) (.string ⟨#[]⟩) (.slice none 0 0) (.slice none 0 0) (bw w #[.int .i64 k, .int .i64 i, .string nm, .slice AL nl cl, .slice AK nk ck]) from ⟨by unfold bw; go_simp, by unfold bw; go_simp, by unfold bw; go_simp, by unfold bw; go_simp, by unfold bw; go_simp, by unfold bw; go_simp, by unfold bw; go_simp, by unfold bw; go_simp, by unfold bw; go_simp, by unfold bw; go_simp, fun h => (hM _ h).1 rfl, fun h => (hO _ h).1 rfl⟩)
  have HY := Lib.hid (show (bw w #[.int .i64 k, .int .i64 i, .string nm, .slice AL nl cl, .slice AK nk ck]).cell? ⟨w.heap.size + 1 + 1, 0, none⟩ = some (.int .i64 0) ∧ (bw w #[.int .i64 k, .int .i64 i, .string nm, .slice AL nl cl, .slice AK nk ck]).frozen? ⟨w.heap.size + 1 + 1, 0, none⟩ = false ∧ ¬ M (bw w #[.int .i64 k, .int .i64 i, .string nm, .slice AL nl cl, .slice AK nk ck]) (w.heap.size + 1 + 1) ∧ ¬ Old (w.heap.size + 1 + 1) from ⟨by unfold bw; go_simp, by unfold bw; go_simp, fun h => (hM _ h).2 rfl, fun h => (hO _ h).2 rfl⟩)
  have HP := Lib.hid (show ∀ q, (Old q ∨ (bw w #[.int .i64 k, .int .i64 i, .string nm, .slice AL nl cl, .slice AK nk ck]).heap.size ≤ q) → q ≠ w.heap.size + 1 ∧ q ≠ w.heap.size + 1 + 1 from fun q hq => by rw [bw_size] at hq; exact hq.elim (hO q) (fun h => by omega))
  have HB := Lib.hid hB
  have HSZ := Lib.hid (bw_size w #[.int .i64 k, .int .i64 i, .string nm, .slice AL nl cl, .slice AK nk ck])
  clear hB hrep hM hO htm hi hq
  generalize hx : cpT R t 0 = x at HC ⊢
  clear hx
  obtain ⟨W1, hW1⟩ : ∃ W1, W1 = bw w #[.int .i64 k, .int .i64 i, .string nm, .slice AL nl cl, .slice AK nk ck] := ⟨_, rfl⟩
  rw [← hW1] at HC HX HY HP HSZ ⊢
  unfold bw at hW1
  have HW1 := Lib.hid hW1
  clear hW1
  go_enter_defers Tryd.func29, Tryd.ntmps29
  go_wp2_with fail
  rw [← HW1.out]
  refine HC.out.mono ?_
  intro e w2 h2
  have hy2 : w2.cell? ⟨w.heap.size + 1 + 1, 0, none⟩ = some (.int .i64 0) := h2.1.cell' HY.out.1 HY.out.2.2.1
  have hz2 : w2.frozen? ⟨w.heap.size + 1 + 1, 0, none⟩ = false := (h2.1.frozen (p := ⟨w.heap.size + 1 + 1, 0, none⟩) (World.block_lt_of_cell? _ _ HY.out.1) HY.out.2.2.1).trans HY.out.2.1
  have hm2 : ¬ M w2 (w.heap.size + 1 + 1) := h2.1.out (World.block_lt_of_cell? _ _ HY.out.1) HY.out.2.2.1
  have HX2 := Lib.hid (HX.out.next h2.1)
  have HF2 := Lib.hid (Fb.of (s := w.heap.size) h2.1)
  have HM2 := Lib.hid hm2
  obtain ⟨hk2, ⟨hn2, v2, rfl, ht2, hi2⟩ | ⟨hn2, rfl⟩⟩ := h2
  · have HT2 := Lib.hid ht2
    obtain ⟨k2, i2, n2, AL2, nl2, cl2, AK2, nk2, ck2, rfl, _⟩ := ht2.open_
    rw [er_zero] at hi2
    simp only [Nat.zero_add] at hi2 hn2
    have HI2 := Lib.hid hi2
    obtain ⟨x0, x1, x2, x3, x4, f0, f1, f2, f3, f4, _, _⟩ := HX2.out
    have hx5 : ∀ i, i < 5 → ∃ u, w2.cell? ⟨w.heap.size + 1, 0 + i, none⟩ = some u := fun i hi => by
      have : i = 0 ∨ i = 1 ∨ i = 2 ∨ i = 3 ∨ i = 4 := by omega
      rcases this with rfl | rfl | rfl | rfl | rfl
      · exact ⟨_, x0⟩
      · exact ⟨_, x1⟩
      · exact ⟨_, x2⟩
      · exact ⟨_, x3⟩
      · exact ⟨_, x4⟩
    have h3 := HF2.out.set5 HB.out HI2.out (o := 0) (v0 := .int .i64 k2) (v1 := .int .i64 i2) (v2 := .string n2) (v3 := .slice AL2 nl2 cl2) (v4 := .slice AK2 nk2 ck2) (.inl rfl) HX2.out.no HX2.out.nm
    have ht3 := set5_tm HB.out HI2.out (o := 0) HX2.out.no HX2.out.nm (v0 := .int .i64 k2) (v1 := .int .i64 i2) (v2 := .string n2) (v3 := .slice AL2 nl2 cl2) (v4 := .slice AK2 nk2 ck2) (fun q hq => (HP.out q hq).1) HT2.out
    have h5 := set5_at (w := w2) (b := w.heap.size + 1) (o := 0) (v0 := .int .i64 k2) (v1 := .int .i64 i2) (v2 := .string n2) (v3 := .slice AL2 nl2 cl2) (v4 := .slice AK2 nk2 ck2) hx5
    have m1 : ¬ M (set5 w2 (w.heap.size + 1) 0 (.int .i64 k2) (.int .i64 i2) (.string n2) (.slice AL2 nl2 cl2) (.slice AK2 nk2 ck2)) (w.heap.size + 1) := fun h => HX2.out.nm (h3.2.2 _ h)
    have m2 : ¬ M (set5 w2 (w.heap.size + 1) 0 (.int .i64 k2) (.int .i64 i2) (.string n2) (.slice AL2 nl2 cl2) (.slice AK2 nk2 ck2)) (w.heap.size + 1 + 1) := fun h => HM2.out (h3.2.2 _ h)
    have hy3 : (set5 w2 (w.heap.size + 1) 0 (.int .i64 k2) (.int .i64 i2) (.string n2) (.slice AL2 nl2 cl2) (.slice AK2 nk2 ck2)).cell? ⟨w.heap.size + 1 + 1, 0, none⟩ = some (.int .i64 0) := (set5_far (by show w.heap.size + 1 + 1 ≠ w.heap.size + 1; omega)).trans hy2
    have hx3 : ∀ i, i < 5 → ∃ u, (set5 w2 (w.heap.size + 1) 0 (.int .i64 k2) (.int .i64 i2) (.string n2) (.slice AL2 nl2 cl2) (.slice AK2 nk2 ck2)).cell? ⟨w.heap.size + 1, 0 + i, none⟩ = some u := fun i hi => by
      have : i = 0 ∨ i = 1 ∨ i = 2 ∨ i = 3 ∨ i = 4 := by omega
      rcases this with rfl | rfl | rfl | rfl | rfl
      · exact ⟨_, h5.1⟩
      · exact ⟨_, h5.2.1⟩
      · exact ⟨_, h5.2.2.1⟩
      · exact ⟨_, h5.2.2.2.1⟩
      · exact ⟨_, h5.2.2.2.2⟩
    have e1 := HB.out.e_ h3.2.1
    have e2 := HB.out.e_ HI2.out
    unfold set5 at e1
    simp only [Nat.zero_add] at e1
    by_cases hxe : x.e = 0
    · have h4 := res_any HB.out h3.1 h3.2.1 hx3 ⟨_, hy3⟩ HX2.out.no HY.out.2.2.2 m1 m2 (.int .i64 k2) (.int .i64 i2) (.string n2) (.slice AL2 nl2 cl2) (.slice AK2 nk2 ck2) (.int .i64 0)
      have ht4 := h4.2.2.2.2 HP.out ht3
      have h44 := And.intro h4.1 (And.intro h4.2.1 (And.intro h4.2.2.1 (And.intro h4.2.2.2.1 ht4)))
      unfold set5 at h44
      simp only [Nat.zero_add] at h44
      have H4 := Lib.hid h44
      clear hk2 ht2 hi2 hm2 HX HC h3 ht3 h5 m1 m2 hy3 hx3 hx5 h4 ht4 h44
      rw [hxe] at e1 e2
      have HXE := Lib.hid hxe
      clear hxe
      go_wp2_with fail
      generalize ((((((((((w2.setCell ⟨w.heap.size + 1, 0, none⟩ (.int .i64 k2)).setCell ⟨w.heap.size + 1, 1, none⟩ (.int .i64 i2)).setCell ⟨w.heap.size + 1, 2, none⟩ (.string n2)).setCell ⟨w.heap.size + 1, 3, none⟩ (.slice AL2 nl2 cl2)).setCell ⟨w.heap.size + 1, 4, none⟩ (.slice AK2 nk2 ck2)).setCell ⟨w.heap.size + 1, 0, none⟩ (.int .i64 k2)).setCell ⟨w.heap.size + 1, 1, none⟩ (.int .i64 i2)).setCell ⟨w.heap.size + 1, 2, none⟩ (.string n2)).setCell ⟨w.heap.size + 1, 3, none⟩ (.slice AL2 nl2 cl2)).setCell ⟨w.heap.size + 1, 4, none⟩ (.slice AK2 nk2 ck2)).setCell ⟨w.heap.size + 1 + 1, 0, none⟩ (.int .i64 0) = w9 at H4 ⊢
      obtain ⟨hb9, hi9, ⟨r0, r1, r2, r3, r4⟩, r5, htm9⟩ := H4.out
      refine leaves_cons (f := 55) (args := #[.pointer (some ⟨w.heap.size + 1, 0, none⟩), .pointer (some ⟨w.heap.size + 1 + 1, 0, none⟩)]) (by simp) (by simp [go_sem]) ?_
      refine (build1_idle _ _ _).mono ?_
      rintro e u' w'' ⟨rfl, rfl, rfl⟩
      simp only [settle]
      refine ⟨.tuple #[.agg #[.int .i64 k2, .int .i64 i2, .string n2, .slice AL2 nl2 cl2, .slice AK2 nk2 ck2], .int .i64 0], by simp [results, Tryd.results29, go_sem, r0, r1, r2, r3, r4, r5], ?_⟩
      exact ⟨hb9, .inr (.inr ⟨hn2, HXE.out, _, _, _, _, _, _, _, _, _, rfl, htm9, by have h := hi9; rw [HXE.out] at h; exact h⟩)⟩
    · have hxb : (x.e != 0) = true := by simpa using hxe
      have h4 := res_any HB.out h3.1 h3.2.1 hx3 ⟨_, hy3⟩ HX2.out.no HY.out.2.2.2 m1 m2 (.int .i64 0) (.int .i64 0) (.string ⟨#[]⟩) (.slice none 0 0) (.slice none 0 0) (.int .i64 x.e)
      have h44 := And.intro h4.1 (And.intro h4.2.1 (And.intro h4.2.2.1 (And.intro h4.2.2.2.1 trivial)))
      unfold set5 at h44
      simp only [Nat.zero_add] at h44
      have H4 := Lib.hid h44
      clear hk2 ht2 hi2 hm2 HX HC h3 ht3 h5 m1 m2 hy3 hx3 hx5 h4 h44
      have HXE := Lib.hid hxe
      clear hxe
      go_wp2_with fail
      go_region
      all_goals
        go_wp2_with fail
        generalize (((((((((((w2.setCell ⟨w.heap.size + 1, 0, none⟩ (.int .i64 k2)).setCell ⟨w.heap.size + 1, 1, none⟩ (.int .i64 i2)).setCell ⟨w.heap.size + 1, 2, none⟩ (.string n2)).setCell ⟨w.heap.size + 1, 3, none⟩ (.slice AL2 nl2 cl2)).setCell ⟨w.heap.size + 1, 4, none⟩ (.slice AK2 nk2 ck2)).setCell ⟨w.heap.size + 1, 0, none⟩ (.int .i64 0)).setCell ⟨w.heap.size + 1, 1, none⟩ (.int .i64 0)).setCell ⟨w.heap.size + 1, 2, none⟩ (.string ⟨#[]⟩)).setCell ⟨w.heap.size + 1, 3, none⟩ (.slice none 0 0)).setCell ⟨w.heap.size + 1, 4, none⟩ (.slice none 0 0)).setCell ⟨w.heap.size + 1 + 1, 0, none⟩ (.int .i64 x.e)) = w9 at H4 ⊢
        obtain ⟨hb9, hi9, ⟨r0, r1, r2, r3, r4⟩, r5, _⟩ := H4.out
        refine leaves_cons (f := 55) (args := #[.pointer (some ⟨w.heap.size + 1, 0, none⟩), .pointer (some ⟨w.heap.size + 1 + 1, 0, none⟩)]) (by simp) (by simp [go_sem]) ?_
        refine (build1_idle _ _ _).mono ?_
        rintro e u' w'' ⟨rfl, rfl, rfl⟩
        simp only [settle]
        refine ⟨.tuple #[zeroV, .int .i64 x.e], by simp [zeroV, results, Tryd.results29, go_sem, r0, r1, r2, r3, r4, r5], ?_⟩
        exact ⟨⟨hb9.os, hb9.tape, hb9.output, hb9.size, hb9.block⟩, .inr (.inl ⟨hn2, HXE.out, rfl⟩)⟩
  · have hx5 : ∀ i, i < 5 → ∃ u, w2.cell? ⟨w.heap.size + 1, 0 + i, none⟩ = some u := fun i hi => by
      have : i = 0 ∨ i = 1 ∨ i = 2 ∨ i = 3 ∨ i = 4 := by omega
      rcases this with rfl | rfl | rfl | rfl | rfl
      · exact ⟨_, HX2.out.x0⟩
      · exact ⟨_, HX2.out.x1⟩
      · exact ⟨_, HX2.out.x2⟩
      · exact ⟨_, HX2.out.x3⟩
      · exact ⟨_, HX2.out.x4⟩
    have hfb := HF2.out.fin (.int .i64 0) (.int .i64 0) (.string ⟨#[]⟩) (.slice none 0 0) (.slice none 0 0) (.int .i64 5)
    have h5 := set5_at (v0 := .int .i64 0) (v1 := .int .i64 0) (v2 := .string ⟨#[]⟩) (v3 := .slice none 0 0) (v4 := .slice none 0 0) hx5
    simp only [Nat.zero_add] at h5
    have hy5 := (set5_far (o := 0) (v0 := .int .i64 0) (v1 := .int .i64 0) (v2 := .string ⟨#[]⟩) (v3 := .slice none 0 0) (v4 := .slice none 0 0) (p := ⟨w.heap.size + 1 + 1, 0, none⟩) (by show w.heap.size + 1 + 1 ≠ w.heap.size + 1; omega)).trans hy2
    unfold outCh
    refine leaves_cons (f := 55) (args := #[.pointer (some ⟨w.heap.size + 1, 0, none⟩), .pointer (some ⟨w.heap.size + 1 + 1, 0, none⟩)]) (by simp) (by simp [go_sem]) ?_
    refine (build1_panic _ _ _ _ _ _ _ _ _ _ _ _ HX2.out.x0 HX2.out.x1 HX2.out.x2 HX2.out.x3 HX2.out.x4 hy2 HX2.out.f0 HX2.out.f1 HX2.out.f2 HX2.out.f3 HX2.out.f4 hz2 (by omega)).mono ?_
    rintro e u' w'' ⟨rfl, rfl, rfl⟩
    generalize set5 w2 (w.heap.size + 1) 0 (.int .i64 0) (.int .i64 0) (.string ⟨#[]⟩) (.slice none 0 0) (.slice none 0 0) = w8 at hfb h5 hy5 ⊢
    have hc8 : ∀ {j : Nat} {c : Value}, w8.cell? ⟨w.heap.size + 1, j, none⟩ = some c → (w8.setCell ⟨w.heap.size + 1 + 1, 0, none⟩ (.int .i64 5)).cell? ⟨w.heap.size + 1, j, none⟩ = some c := fun {j c} hc => (World.cell?_setCell_other _ _ _ _ (by intro e; injection e with e _ _; omega)).trans hc
    have r0 := hc8 h5.1
    have r1 := hc8 h5.2.1
    have r2 := hc8 h5.2.2.1
    have r3 := hc8 h5.2.2.2.1
    have r4 := hc8 h5.2.2.2.2
    have r5 := set_same (v := .int .i64 5) hy5
    generalize w8.setCell ⟨w.heap.size + 1 + 1, 0, none⟩ (.int .i64 5) = w9 at hfb r0 r1 r2 r3 r4 r5 ⊢
    simp only [settle]
    refine ⟨.tuple #[zeroV, .int .i64 5], by simp [zeroV, results, Tryd.results29, go_sem, r0, r1, r2, r3, r4, r5], ?_⟩
    exact ⟨hfb, .inl ⟨by simpa using hn2, rfl⟩⟩
end
end Go.Proofs.YtobaeeobfcffoaaDoor

/-! build with a replacer that keeps nothing of its own; Shift. -/
namespace Go.Proofs.YtobaeeobfcffoaaDoor
open Go.RowKit
/-- The builder's cells in the block s + 3; old blocks are as they were. -/
def InvS (W : World) (Old : Nat → Prop) (_ n _ : Nat) (e : Int) (w : World) : Prop :=
  w.cell? ⟨W.heap.size + 1 + 1 + 1, 0, none⟩ = some (.int .i64 n) ∧ w.cell? ⟨W.heap.size + 1 + 1 + 1, 1, none⟩ = some (.int .i64 e) ∧ w.frozen? ⟨W.heap.size + 1 + 1 + 1, 0, none⟩ = false ∧ w.frozen? ⟨W.heap.size + 1 + 1 + 1, 1, none⟩ = false ∧ W.heap.size + 4 ≤ w.heap.size ∧ ∀ q, Old q → w.heap[q]? = W.heap[q]?
def MS (W : World) (_ : World) (q : Nat) : Prop := q = W.heap.size + 1 + 1 + 1
theorem bldS (W : World) (Old : Nat → Prop) (hO : ∀ q, Old q → q < W.heap.size) : Bld (W.heap.size + 1 + 1 + 1) Old (InvS W Old) (MS W) where
  n_ := fun h => h.1
  e_ := fun h => h.2.1
  fz := fun h => ⟨h.2.2.1, h.2.2.2.1⟩
  lt := fun {d n f e w k} h hm => by
    have hk : k = W.heap.size + 1 + 1 + 1 := hm
    refine ⟨by have := h.2.2.2.2.1; omega, fun ho => by have := hO k ho; omega⟩
  old := fun {d n f e w k} h ho => by have := hO k ho; have := h.2.2.2.2.1; omega
  mb := fun _ => rfl
  mono := fun h _ => h
  still := fun {d n f e w w'} h hs => by
    have hb : w'.heap[W.heap.size + 1 + 1 + 1]? = w.heap[W.heap.size + 1 + 1 + 1]? := hs.2 _ (.inr rfl) (by have := h.2.2.2.2.1; omega)
    refine ⟨⟨(World.cell?_of_block (w := w) (a := ⟨W.heap.size + 1 + 1 + 1, 0, none⟩) hb).trans h.1, (World.cell?_of_block (w := w) (a := ⟨W.heap.size + 1 + 1 + 1, 1, none⟩) hb).trans h.2.1, (World.frozen?_of_block (w := w) (a := ⟨W.heap.size + 1 + 1 + 1, 0, none⟩) hb).trans h.2.2.1, (World.frozen?_of_block (w := w) (a := ⟨W.heap.size + 1 + 1 + 1, 1, none⟩) hb).trans h.2.2.2.1, by have := h.2.2.2.2.1; have := hs.1; omega, fun q hq => (hs.2 q (.inl hq) (by have := hO q hq; have := h.2.2.2.2.1; omega)).trans (h.2.2.2.2.2 q hq)⟩, fun k hk => hk⟩
  setN := fun {d n n' f e w} h => by
    refine ⟨⟨set_same h.1, set_other h.2.1 (by decide), ?_, ?_, by have := h.2.2.2.2.1; simpa [World.setCell] using this, fun q hq => (Below.heap_setCell _ _ _ _ (by show q ≠ W.heap.size + 1 + 1 + 1; have := hO q hq; omega)).trans (h.2.2.2.2.2 q hq)⟩, fun k hk => hk⟩
    · have := h.2.2.1; go_simp
    · have := h.2.2.2.1; go_simp
  setE := fun {d n f e e' w} h => by
    refine ⟨⟨set_other h.1 (by decide), set_same h.2.1, ?_, ?_, by have := h.2.2.2.2.1; simpa [World.setCell] using this, fun q hq => (Below.heap_setCell _ _ _ _ (by show q ≠ W.heap.size + 1 + 1 + 1; have := hO q hq; omega)).trans (h.2.2.2.2.2 q hq)⟩, fun k hk => hk⟩
    · have := h.2.2.1; go_simp
    · have := h.2.2.2.1; go_simp
theorem bw_old (W : World) (v : Array Value) {q : Nat} (hq : q < W.heap.size) : (bw W v).heap[q]? = W.heap[q]? := by
  unfold bw
  rw [Below.heap_alloc _ _ _ (by simp; omega), Below.heap_alloc _ _ _ (by simp; omega), Below.heap_alloc _ _ _ (by simp; omega), Below.heap_alloc _ _ _ hq]
theorem invS_start (W : World) (Old : Nat → Prop) (hO : ∀ q, Old q → q < W.heap.size) (v : Array Value) : InvS W Old 0 0 0 0 (bw W v) :=
  ⟨by unfold bw; go_simp, by unfold bw; go_simp, by unfold bw; go_simp, by unfold bw; go_simp, by rw [bw_size]; omega, fun q hq => bw_old W v (hO q hq)⟩
/-- The error of a walk, and what is returned. -/
def errO (x : Ou) : Int := if 4096 < x.n then 5 else x.e
def resO (x : Ou) : Tm := if errO x = 0 then x.t else nilT
/-- The call returns a term and an error. -/
def GivesP (err : Int) (t : Tm) (S : Nat → Prop) (w : World) (e : Ending) (w' : World) : Prop :=
  Below w.heap.size w w' ∧ ∃ k i nm AL nl cl AK nk ck, e = .returned (.tuple #[.agg #[.int .i64 k, .int .i64 i, .string nm, .slice AL nl cl, .slice AK nk ck], .int .i64 err]) ∧ TmP w' S t (.agg #[.int .i64 k, .int .i64 i, .string nm, .slice AL nl cl, .slice AK nk ck])
def GivesT (err : Int) (t : Tm) (w : World) (e : Ending) (w' : World) : Prop :=
  Below w.heap.size w w' ∧ ∃ k i nm AL nl cl AK nk ck, e = .returned (.tuple #[.agg #[.int .i64 k, .int .i64 i, .string nm, .slice AL nl cl, .slice AK nk ck], .int .i64 err]) ∧ TmV w' w'.heap.size t (.agg #[.int .i64 k, .int .i64 i, .string nm, .slice AL nl cl, .slice AK nk ck])
theorem sbuild_any {W : World} {Old : Nat → Prop} (hO : ∀ q, Old q → q < W.heap.size) {Q : Tm → Nat → Prop} {fn : FuncId} {cap : Array Value} {R : Tm → Nat → Option Ou} (hrep : Rep (W.heap.size + 1 + 1 + 1) Old (InvS W Old) (MS W) Q fn cap R) (hfn : ∀ (a : Array Value) (w : World), (callFunc fn a).run Tryd.prog w = .ok (.enter fn a) w) (t : Tm) (hsz : szT t ≤ 1000000) (hq : AllT Q t 0)
    {k i : Int} {nm : ByteArray} {AL : Option Addr} {nl cl : Nat} {AK : Option Addr} {nk ck : Nat} (htm : TmP W Old t (.agg #[.int .i64 k, .int .i64 i, .string nm, .slice AL nl cl, .slice AK nk ck])) :
    Calls Tryd.prog 29 #[.agg #[.int .i64 k, .int .i64 i, .string nm, .slice AL nl cl, .slice AK nk ck], .func (.func fn) #[] cap] W (GivesP (errO (cpT R t 0)) (resO (cpT R t 0)) (fun q => Old q ∨ W.heap.size ≤ q) W) := by
  have hbw : ∀ q, Old q → (bw W #[.int .i64 k, .int .i64 i, .string nm, .slice AL nl cl, .slice AK nk ck]).heap[q]? = W.heap[q]? := fun q hq => bw_old W _ (hO q hq)
  refine (build_any (bldS W Old hO) hrep hfn t hsz hq (fun q hm => by have : q = W.heap.size + 1 + 1 + 1 := hm; omega) (fun q ho => by have := hO q ho; omega) (TmP.keep (fun p hp => World.cell?_of_block (w := W) (hbw _ hp)) _ _ htm) (invS_start W Old hO _)).mono fun e w' h => ?_
  obtain ⟨hf, h⟩ := h
  have hbel : Below W.heap.size W w' := ⟨hf.os, hf.tape, hf.output, by have := hf.size; rw [bw_size] at this; omega, fun q hq => (hf.block q (by rw [bw_size]; omega) (fun hm => by have : q = W.heap.size + 1 + 1 + 1 := hm; omega) (by omega) (by omega)).trans (bw_old W _ hq)⟩
  refine ⟨hbel, ?_⟩
  have hnil : TmP w' (fun q => Old q ∨ W.heap.size ≤ q) nilT zeroV := tmP_vr' w' _ 0 none 0 none 0
  rcases h with ⟨hn, rfl⟩ | ⟨hn, he, rfl⟩ | ⟨hn, he, k', i', nm', AL', nl', cl', AK', nk', ck', rfl, ht, _⟩
  · have h1 : errO (cpT R t 0) = 5 := by unfold errO; rw [if_pos hn]
    have h2 : resO (cpT R t 0) = nilT := by unfold resO; rw [h1]; rfl
    rw [h1, h2]
    exact ⟨_, _, _, _, _, _, _, _, _, rfl, hnil⟩
  · have h1 : errO (cpT R t 0) = (cpT R t 0).e := by unfold errO; rw [if_neg (by omega)]
    have h2 : resO (cpT R t 0) = nilT := by unfold resO; rw [h1, if_neg he]
    rw [h1, h2]
    exact ⟨_, _, _, _, _, _, _, _, _, rfl, hnil⟩
  · have h1 : errO (cpT R t 0) = 0 := by unfold errO; rw [if_neg (by omega), he]
    have h2 : resO (cpT R t 0) = (cpT R t 0).t := by unfold resO; rw [h1, if_pos rfl]
    rw [h1, h2]
    exact ⟨_, _, _, _, _, _, _, _, _, rfl, TmP.mono (fun q hq _ => hq.1.elim .inl (fun h => .inr (by rw [bw_size] at h; omega))) _ _ ht⟩
/-- Five cells of a block of the call's own. -/
structure B5 (b : Nat) (c0 c1 c2 c3 c4 : Value) (w : World) : Prop where
  x0 : w.cell? ⟨b, 0, none⟩ = some c0
  x1 : w.cell? ⟨b, 1, none⟩ = some c1
  x2 : w.cell? ⟨b, 2, none⟩ = some c2
  x3 : w.cell? ⟨b, 3, none⟩ = some c3
  x4 : w.cell? ⟨b, 4, none⟩ = some c4
  f0 : w.frozen? ⟨b, 0, none⟩ = false
  f1 : w.frozen? ⟨b, 1, none⟩ = false
  f2 : w.frozen? ⟨b, 2, none⟩ = false
  f3 : w.frozen? ⟨b, 3, none⟩ = false
  f4 : w.frozen? ⟨b, 4, none⟩ = false
namespace B5
variable {b : Nat} {c0 c1 c2 c3 c4 : Value} {w w' : World}
theorem lt (h : B5 b c0 c1 c2 c3 c4 w) : b < w.heap.size := World.block_lt_of_cell? w _ h.x0
theorem nextB (h : B5 b c0 c1 c2 c3 c4 w) {B : Nat} (hb : Below B w w') (hB : b < B) : B5 b c0 c1 c2 c3 c4 w' :=
  ⟨(hb.cell (p := ⟨b, 0, none⟩) hB).trans h.x0, (hb.cell (p := ⟨b, 1, none⟩) hB).trans h.x1, (hb.cell (p := ⟨b, 2, none⟩) hB).trans h.x2, (hb.cell (p := ⟨b, 3, none⟩) hB).trans h.x3, (hb.cell (p := ⟨b, 4, none⟩) hB).trans h.x4, (hb.frozen (p := ⟨b, 0, none⟩) hB).trans h.f0, (hb.frozen (p := ⟨b, 1, none⟩) hB).trans h.f1, (hb.frozen (p := ⟨b, 2, none⟩) hB).trans h.f2, (hb.frozen (p := ⟨b, 3, none⟩) hB).trans h.f3, (hb.frozen (p := ⟨b, 4, none⟩) hB).trans h.f4⟩
theorem next (h : B5 b c0 c1 c2 c3 c4 w) (hb : Below w.heap.size w w') : B5 b c0 c1 c2 c3 c4 w' := h.nextB hb h.lt
theorem new (w : World) (c0 c1 c2 c3 c4 : Value) : B5 w.heap.size c0 c1 c2 c3 c4 (w.alloc (.cells #[c0, c1, c2, c3, c4] 25)) := by
  have hn := World.alloc_heap_new w (.cells #[c0, c1, c2, c3, c4] 25)
  exact ⟨cell_of_row _ _ 0 _ _ _ hn, cell_of_row _ _ 1 _ _ _ hn, cell_of_row _ _ 2 _ _ _ hn, cell_of_row _ _ 3 _ _ _ hn, cell_of_row _ _ 4 _ _ _ hn, by go_simp, by go_simp, by go_simp, by go_simp, by go_simp⟩
theorem put (h : B5 b c0 c1 c2 c3 c4 w) (v0 v1 v2 v3 v4 : Value) : B5 b v0 v1 v2 v3 v4 (set5 w b 0 v0 v1 v2 v3 v4) := by
  have h5 := set5_at (w := w) (b := b) (o := 0) (v0 := v0) (v1 := v1) (v2 := v2) (v3 := v3) (v4 := v4) (fun i hi => by
    have : i = 0 ∨ i = 1 ∨ i = 2 ∨ i = 3 ∨ i = 4 := by omega
    rcases this with rfl | rfl | rfl | rfl | rfl
    · exact ⟨_, h.x0⟩
    · exact ⟨_, h.x1⟩
    · exact ⟨_, h.x2⟩
    · exact ⟨_, h.x3⟩
    · exact ⟨_, h.x4⟩)
  simp only [Nat.zero_add] at h5
  have hf : ∀ (i : Nat) (w : World) (j : Nat) (v : Value), w.frozen? ⟨b, i, none⟩ = false → (w.setCell ⟨b, j, none⟩ v).frozen? ⟨b, i, none⟩ = false := fun i w j v h => by go_simp
  have hg : ∀ i, w.frozen? ⟨b, i, none⟩ = false → (set5 w b 0 v0 v1 v2 v3 v4).frozen? ⟨b, i, none⟩ = false := fun i h => hf _ _ _ _ (hf _ _ _ _ (hf _ _ _ _ (hf _ _ _ _ (hf _ _ _ _ h))))
  exact ⟨h5.1, h5.2.1, h5.2.2.1, h5.2.2.2.1, h5.2.2.2.2, hg 0 h.f0, hg 1 h.f1, hg 2 h.f2, hg 3 h.f3, hg 4 h.f4⟩
end B5
theorem below_set5 {B : Nat} {w0 w : World} (h : Below B w0 w) {b : Nat} (hb : B ≤ b) (o : Nat) (v0 v1 v2 v3 v4 : Value) : Below B w0 (set5 w b o v0 v1 v2 v3 v4) :=
  ((((h.setCell (p := ⟨b, o, none⟩) hb v0).setCell (p := ⟨b, o + 1, none⟩) hb v1).setCell (p := ⟨b, o + 2, none⟩) hb v2).setCell (p := ⟨b, o + 3, none⟩) hb v3).setCell (p := ⟨b, o + 4, none⟩) hb v4
end Go.Proofs.YtobaeeobfcffoaaDoor
