/- The closure of Under. -/
import Derived.Test.YtobaeeobfcffoaaDoorShp
import Derived.Deep.RegionHeld3
/-! The closure of Under. -/
namespace Go.Proofs.YtobaeeobfcffoaaDoor
open Go.RowKit
section
variable {pb : Nat} {Old : Nat → Prop} {Inv : Nat → Nat → Nat → Int → World → Prop} {M : World → Nat → Prop}
/-- A walk within a walk: two cells more are kept. -/
def InvN (Inv : Nat → Nat → Nat → Int → World → Prop) (M : World → Nat → Prop) (D pf pg : Nat) (x y : Int) (_ n f : Nat) (e : Int) (w : World) : Prop :=
  Inv D n f e w ∧ w.cell? ⟨pf, 0, none⟩ = some (.int .i64 x) ∧ w.cell? ⟨pg, 0, none⟩ = some (.int .i64 y) ∧ ¬ M w pf ∧ ¬ M w pg
theorem bldN (hB : Bld pb Old Inv M) (D pf pg : Nat) (x y : Int) : Bld pb (fun q => Old q ∨ q = pf ∨ q = pg) (InvN Inv M D pf pg x y) M where
  n_ := fun h => hB.n_ h.1
  e_ := fun h => hB.e_ h.1
  fz := fun h => hB.fz h.1
  lt := fun {d n f e w k} h hm => ⟨(hB.lt h.1 hm).1, fun ho => by
    rcases ho with ho | rfl | rfl
    · exact (hB.lt h.1 hm).2 ho
    · exact h.2.2.2.1 hm
    · exact h.2.2.2.2 hm⟩
  old := fun {d n f e w k} h ho => by
    rcases ho with ho | rfl | rfl
    · exact hB.old h.1 ho
    · exact World.block_lt_of_cell? w _ h.2.1
    · exact World.block_lt_of_cell? w _ h.2.2.1
  mb := fun h => hB.mb h.1
  mono := fun h _ => h
  still := fun {d n f e w w'} h hs => by
    have h1 := hB.still h.1 (⟨hs.1, fun q hq hl => hs.2 q (hq.elim (fun h => .inl (.inl h)) .inr) hl⟩ : Still Old M w w')
    exact ⟨⟨h1.1, (World.cell?_of_block (w := w) (a := ⟨pf, 0, none⟩) (hs.2 pf (.inl (.inr (.inl rfl))) (World.block_lt_of_cell? w _ h.2.1))).trans h.2.1, (World.cell?_of_block (w := w) (a := ⟨pg, 0, none⟩) (hs.2 pg (.inl (.inr (.inr rfl))) (World.block_lt_of_cell? w _ h.2.2.1))).trans h.2.2.1, fun hm => h.2.2.2.1 (h1.2 _ hm), fun hm => h.2.2.2.2 (h1.2 _ hm)⟩, h1.2⟩
  setN := fun {d n n' f e w} h => by
    have h1 := hB.setN (n' := n') h.1
    have hf : pf ≠ pb := fun e => h.2.2.2.1 (e ▸ hB.mb h.1)
    have hg : pg ≠ pb := fun e => h.2.2.2.2 (e ▸ hB.mb h.1)
    exact ⟨⟨h1.1, (World.cell?_setCell_other _ _ _ _ (by intro e; injection e with e _ _; first | exact hf e | exact hf e.symm)).trans h.2.1, (World.cell?_setCell_other _ _ _ _ (by intro e; injection e with e _ _; first | exact hg e | exact hg e.symm)).trans h.2.2.1, fun hm => h.2.2.2.1 (h1.2 _ hm), fun hm => h.2.2.2.2 (h1.2 _ hm)⟩, h1.2⟩
  setE := fun {d n f e e' w} h => by
    have h1 := hB.setE (e' := e') h.1
    have hf : pf ≠ pb := fun e => h.2.2.2.1 (e ▸ hB.mb h.1)
    have hg : pg ≠ pb := fun e => h.2.2.2.2 (e ▸ hB.mb h.1)
    exact ⟨⟨h1.1, (World.cell?_setCell_other _ _ _ _ (by intro e; injection e with e _ _; first | exact hf e | exact hf e.symm)).trans h.2.1, (World.cell?_setCell_other _ _ _ _ (by intro e; injection e with e _ _; first | exact hg e | exact hg e.symm)).trans h.2.2.1, fun hm => h.2.2.2.1 (h1.2 _ hm), fun hm => h.2.2.2.2 (h1.2 _ hm)⟩, h1.2⟩
/-- copied with a closure of shifter that was just made. -/
theorem shcopied_any (hB : Bld pb Old Inv M) {d n f : Nat} {e0 : Int} {w : World} (hi : Inv (d + 1) n f e0 w) {pf pg : Nat} {x y : Int} (h0 : w.cell? ⟨pf, 0, none⟩ = some (.int .i64 x)) (h1 : w.cell? ⟨pg, 0, none⟩ = some (.int .i64 y)) (m0 : ¬ M w pf) (m1 : ¬ M w pg) (hn : n ≤ 4096) (hx : 0 ≤ x ∧ x ≤ 9223372036854775807) (hy : -10000000000 ≤ y ∧ y ≤ 10000000000)
    (t : Tm) (v : Value) (hsz : szT t ≤ 1000000) (hq : AllT Qv t 0) (ht : TmP w Old t v) {w0 : World} (hs : w0.heap.size ≤ w.heap.size) (hpf : w0.heap.size ≤ pf) (hpg : w0.heap.size ≤ pg) :
    Calls Tryd.prog 35 #[.pointer (some ⟨pb, 0, none⟩), v, .int .i64 0, .func (.func 56) #[] #[.pointer (some ⟨pf, 0, none⟩), .pointer (some ⟨pg, 0, none⟩)]] w (fun e w' => Kp M w w' ∧ ((n + (cpT (shR y x) t 0).n ≤ 4096 ∧ ∃ v, e = .returned v ∧ TmP w' (Rs Old M w0 w') (cpT (shR y x) t 0).t v ∧ Inv (d + 1) (n + (cpT (shR y x) t 0).n) (f + (cpT (shR y x) t 0).f) (er e0 (cpT (shR y x) t 0).e) w') ∨ (4096 < n + (cpT (shR y x) t 0).n ∧ e = .panicked outCh))) := by
  have hN := bldN hB (d + 1) pf pg x y
  refine (copied_any hN (Q := Qv) (R := shR y x) ?_ enters_shifter1 1000000 t v 0 n f e0 w hsz (by omega) hq (TmP.mono (fun q h _ => .inl h) _ _ ht) ⟨hi, h0, h1, m0, m1⟩ hn).mono fun e w' h => ?_
  · intro k i nm AL cl ls AK ck ks d n f e w hq hd ht hi hn
    exact shifter1_any hN (pf := pf) (pg := pg) (fr := x) (by_ := y) (fun {d n f e w} h => ⟨h.2.1, h.2.2.1⟩) (d := d) hi hn k i nm AL ls.length cl AK ks.length ck ls ks (fun e => hq.here e) hd hx hy
  · obtain ⟨hk, ⟨hn', v', rfl, ht', hi'⟩ | h⟩ := h
    · exact ⟨hk, .inl ⟨hn', v', rfl, TmP.mono (fun q hq _ => ⟨by rcases hq.1 with (h | rfl | rfl) | h; exact .inl h; exact .inr hpf; exact .inr hpg; exact .inr (Nat.le_trans hs h), hq.2⟩) _ _ ht', hi'.1⟩⟩
    · exact ⟨hk, .inr h⟩
end
end Go.Proofs.YtobaeeobfcffoaaDoor

/-! The closure of Under: the walk. -/
namespace Go.Proofs.YtobaeeobfcffoaaDoor
open Go.RowKit
section
variable {pb : Nat} {Old : Nat → Prop} {Inv : Nat → Nat → Nat → Int → World → Prop} {M : World → Nat → Prop}
set_option maxRecDepth 100000 in
set_option maxHeartbeats 2000000 in
theorem under1_any (hB : Bld pb Old Inv M) {pd pv : Nat} {dep : Int} {AV : Option Addr} {cv : Nat} {vals : List Tm} (hcap : ∀ {d n f e w}, Inv d n f e w → w.cell? ⟨pd, 0, none⟩ = some (.int .i64 dep) ∧ w.cell? ⟨pv, 0, none⟩ = some (.slice AV vals.length cv) ∧ Old pd ∧ Old pv ∧ (0 < vals.length → ∃ b o, AV = some ⟨b, o, none⟩ ∧ Old b ∧ KsP w Old b o vals)) (hvals : ∀ x ∈ vals, szT x ≤ 1000000 ∧ AllT Qv x 0) (hdep : 0 ≤ dep ∧ dep ≤ 9223372036854775807) (hvl : vals.length ≤ 1000000)
    {d n f : Nat} {e0 : Int} {w : World} (hi : Inv (d + 1) n f e0 w) (hn : n ≤ 4096)
    (k i : Int) (nm : ByteArray) (AL : Option Addr) (nl cl : Nat) (AK : Option Addr) (nk ck : Nat) (ls : List (Int × List (Int × Int))) (ks : List Tm) (hi0 : k = 0 → 0 ≤ i ∧ i ≤ 1000000000) (hd : d ≤ 1000000000) :
    Calls Tryd.prog 33 #[.pointer (some ⟨pb, 0, none⟩), .agg #[.int .i64 k, .int .i64 i, .string nm, .slice AL nl cl, .slice AK nk ck], .int .i64 d, .pointer (some ⟨pd, 0, none⟩), .pointer (some ⟨pv, 0, none⟩)] w
      (fun e w' => RepPost Old Inv M d n f e0 w e w' (undR vals dep (.mk k i nm ls ks) d)) := by
  have HK0 := Lib.hid (Kp.new hB (Kp.refl M w) hi ((Below.refl _ _).alloc (Nat.le_refl _) (.cells #[.int .i64 k, .int .i64 i, .string nm, .slice AL nl cl, .slice AK nk ck] 25)))
  have HX0 := Lib.hid (Bx.new hB hi (.int .i64 k) (.int .i64 i) (.string nm) (.slice AL nl cl) (.slice AK nk ck))
  have HK := Lib.hid (Kp.new hB HK0.out.1 HK0.out.2 ((Below.refl _ _).alloc (Nat.le_refl _) (.cells #[.int .i64 0, .int .i64 0, .string ⟨#[]⟩, .slice none 0 0, .slice none 0 0] 25)))
  have HX := Lib.hid (HX0.out.next (Kp.new hB (Kp.refl M _) HK0.out.2 ((Below.refl _ _).alloc (Nat.le_refl _) (.cells #[.int .i64 0, .int .i64 0, .string ⟨#[]⟩, .slice none 0 0, .slice none 0 0] 25))).1)
  have HY := Lib.hid (Bx.new hB HK0.out.2 (.int .i64 0) (.int .i64 0) (.string ⟨#[]⟩) (.slice none 0 0) (.slice none 0 0))
  simp only [World.size_alloc] at HY
  have HB := Lib.hid hB
  have HC := Lib.hid (show ∀ (d n f : Nat) (e : Int) (w : World), Inv d n f e w → w.cell? ⟨pd, 0, none⟩ = some (.int .i64 dep) ∧ w.cell? ⟨pv, 0, none⟩ = some (.slice AV vals.length cv) ∧ Old pd ∧ Old pv ∧ (0 < vals.length → ∃ b o, AV = some ⟨b, o, none⟩ ∧ Old b ∧ KsP w Old b o vals) from fun d n f e w h => hcap h)
  have HV := Lib.hid hvals
  generalize hr : undR vals dep (.mk k i nm ls ks) d = r
  have HRR := Lib.hid hr
  clear hr
  clear hi hB HK0 HX0 hcap hvals
  go_enter Tryd.func33, Tryd.ntmps33
  go_wp2_with fail
  refine (sfree_any k i d _ _ _ _ (fun e => by have := hi0 e; omega) (by omega)).mono ?_
  rintro e w1 ⟨rfl, hw1⟩
  have hb1 := ((Below.refl _ ((w.alloc (.cells #[.int .i64 k, .int .i64 i, .string nm, .slice AL nl cl, .slice AK nk ck] 25)).alloc (.cells #[.int .i64 0, .int .i64 0, .string ⟨#[]⟩, .slice none 0 0, .slice none 0 0] 25))).alloc (Nat.le_refl _) (.cells #[.int .i64 k, .int .i64 i, .string nm, .slice AL nl cl, .slice AK nk ck] 25))
  rw [← hw1] at hb1
  have hk1 := Kp.new HB.out (Kp.refl M _) HK.out.2 hb1
  have HK1 : Hid (Kp M w w1 ∧ Inv (d + 1) n f e0 w1) := Lib.hid ⟨HK.out.1.trans hk1.1, hk1.2⟩
  have HX1 := Lib.hid (HX.out.next hk1.1)
  have HY1 := Lib.hid (HY.out.next hk1.1)
  have hsz1 : w.heap.size + 1 < w1.heap.size := HY1.out.lt
  clear hw1 hb1 hk1 HK HX HY
  obtain ⟨x0, x1, x2, x3, x4, _, _, _, _, _, _, _⟩ := HX1.out
  obtain ⟨y0, y1, y2, y3, y4, f0, f1, f2, f3, f4, _, _⟩ := HY1.out
  obtain ⟨g0, g1, hod, hov, hkv⟩ := HC.out _ _ _ _ _ HK1.out.2
  have HKV := Lib.hid hkv
  clear hkv
  by_cases hfree : k = 0 ∧ (d : Int) ≤ i
  · rw [if_pos hfree, decide_eq_true hfree]
    obtain ⟨hk0, hdi⟩ := hfree
    have hi0 := hi0 hk0
    by_cases hff : dep ≤ i - d
    · have h1 : decide (i - d < dep) = false := by rw [decide_eq_false_iff_not]; omega
      by_cases hin : (i - d - dep).toNat < vals.length
      · have h2 : decide (i - d - dep < (vals.length : Int)) = true := by rw [decide_eq_true_eq]; omega
        obtain ⟨j, hj⟩ : ∃ j, j = (i - d - dep).toNat := ⟨_, rfl⟩
        have hji : i - d - dep = (j : Int) := by omega
        rw [← hj] at hin
        obtain ⟨bv, ov, rfl, hob, hks⟩ := HKV.out (by omega)
        obtain ⟨d0, d1, d2, d3, d4, p0, p1, p2, p3, p4, hq⟩ := hks.at_ (List.getElem?_eq_getElem hin)
        obtain ⟨qk, qi, qn, qAL, qnl, qcl, qAK, qnk, qck, hqe, _⟩ := hq.open_
        simp only [Value.agg.injEq, Array.mk.injEq, List.cons.injEq, and_true] at hqe
        obtain ⟨rfl, rfl, rfl, rfl, rfl⟩ := hqe
        have HVX := Lib.hid (HV.out _ (List.getElem_mem hin))
        have HR := Lib.hid (show r = some (cpT (shR (dep + d) 0) vals[j] 0) by rw [← HRR.out]; simp only [undR]; rw [if_pos ⟨hk0, hdi, hff⟩, ← hj, List.getElem?_eq_getElem hin])
        generalize vals[j] = x at *
        have HSK := Lib.hid (show ∀ W, Kp M w1 W → (W.cell? ⟨pd, 0, none⟩ = some (.int .i64 dep) ∧ W.cell? ⟨pv, 0, none⟩ = some (.slice (some ⟨bv, ov, none⟩) vals.length cv) ∧ W.cell? ⟨bv, ov + j * 5, none⟩ = some (.int .i64 qk) ∧ W.cell? ⟨bv, ov + j * 5 + 1, none⟩ = some (.int .i64 qi) ∧ W.cell? ⟨bv, ov + j * 5 + 2, none⟩ = some (.string qn) ∧ W.cell? ⟨bv, ov + j * 5 + 3, none⟩ = some (.slice qAL qnl qcl) ∧ W.cell? ⟨bv, ov + j * 5 + 4, none⟩ = some (.slice qAK qnk qck)) from fun W hW => by
          have ho : ∀ q, Old q → ¬ M w1 q := fun q h hm => (HB.out.lt HK1.out.2 hm).2 h
          exact ⟨hW.cell' g0 (ho _ hod), hW.cell' g1 (ho _ hov), hW.cell' p0 (ho _ hob), hW.cell' p1 (ho _ hob), hW.cell' p2 (ho _ hob), hW.cell' p3 (ho _ hob), hW.cell' p4 (ho _ hob)⟩)
        have hD := Kp.new HB.out (Kp.refl M w1) HK1.out.2 (Below.drew (Below.refl w1.heap.size w1))
        have h7b : Below w1.drew.heap.size w1.drew ((w1.drew.alloc (.cells #[.int .i64 (dep + d)] 3)).alloc (.cells #[.int .i64 0] 3)) := ((Below.refl _ _).alloc (Nat.le_refl _) _).alloc (by show _ ≤ (World.alloc _ _).heap.size; simp) _
        have h7 := Kp.new HB.out hD.1 hD.2 h7b
        have hsh := fun q hq => Bld.shrink HB.out HK1.out.2 (Below.drew (Below.refl w1.heap.size w1)) q (Bld.shrink HB.out hD.2 h7b q hq)
        have HSD := Lib.hid (HSK.out _ hD.1)
        have HS7 := Lib.hid (HSK.out _ h7.1)
        have hs7 : ((w1.drew.alloc (.cells #[.int .i64 (dep + d)] 3)).alloc (.cells #[.int .i64 0] 3)).heap.size = w1.heap.size + 1 + 1 := by show ((w1.alloc _).alloc _).heap.size = _; simp
        have HCC := Lib.hid (shcopied_any HB.out h7.2 (pf := w1.heap.size + 1) (pg := w1.heap.size) (x := 0) (y := dep + d) (by go_simp) (by go_simp) (fun hm => by have := (HB.out.lt HK1.out.2 (hsh _ hm)).1; omega) (fun hm => by have := (HB.out.lt HK1.out.2 (hsh _ hm)).1; omega) hn (by omega) (by omega) x (.agg #[.int .i64 qk, .int .i64 qi, .string qn, .slice qAL qnl qcl, .slice qAK qnk qck]) HVX.out.1 HVX.out.2 (h7.1.old (fun q h hm => (HB.out.lt HK1.out.2 hm).2 h) hq) (w0 := w1) (by rw [hs7]; omega) (by omega) (by omega))
        have HAF := Lib.hid (show n + (cpT (shR (dep + d) 0) x 0).n ≤ 4096 → ∀ (e : Ending) (w9 : World), (Kp M ((w1.drew.alloc (.cells #[.int .i64 (dep + d)] 3)).alloc (.cells #[.int .i64 0] 3)) w9 ∧ ((n + (cpT (shR (dep + d) 0) x 0).n ≤ 4096 ∧ ∃ v, e = .returned v ∧ TmP w9 (Rs Old M w1 w9) (cpT (shR (dep + d) 0) x 0).t v ∧ Inv (d + 1) (n + (cpT (shR (dep + d) 0) x 0).n) (f + (cpT (shR (dep + d) 0) x 0).f) (er e0 (cpT (shR (dep + d) 0) x 0).e) w9) ∨ (4096 < n + (cpT (shR (dep + d) 0) x 0).n ∧ e = .panicked outCh))) → ∃ k9 i9 n9 AL9 nl9 cl9 AK9 nk9 ck9, e = .returned (.agg #[.int .i64 k9, .int .i64 i9, .string n9, .slice AL9 nl9 cl9, .slice AK9 nk9 ck9]) ∧ Hid (w9.cell? ⟨pd, 0, none⟩ = some (.int .i64 dep) ∧ w9.cell? ⟨pv, 0, none⟩ = some (.slice (some ⟨bv, ov, none⟩) vals.length cv) ∧ w9.cell? ⟨bv, ov + j * 5, none⟩ = some (.int .i64 qk) ∧ w9.cell? ⟨bv, ov + j * 5 + 1, none⟩ = some (.int .i64 qi) ∧ w9.cell? ⟨bv, ov + j * 5 + 2, none⟩ = some (.string qn) ∧ w9.cell? ⟨bv, ov + j * 5 + 3, none⟩ = some (.slice qAL qnl qcl) ∧ w9.cell? ⟨bv, ov + j * 5 + 4, none⟩ = some (.slice qAK qnk qck)) ∧ Hid ((((((w9.setCell ⟨w.heap.size + 1, 0, none⟩ (.int .i64 k9)).setCell ⟨w.heap.size + 1, 1, none⟩ (.int .i64 i9)).setCell ⟨w.heap.size + 1, 2, none⟩ (.string n9)).setCell ⟨w.heap.size + 1, 3, none⟩ (.slice AL9 nl9 cl9)).setCell ⟨w.heap.size + 1, 4, none⟩ (.slice AK9 nk9 ck9)).cell? ⟨pd, 0, none⟩ = some (.int .i64 dep) ∧ (((((w9.setCell ⟨w.heap.size + 1, 0, none⟩ (.int .i64 k9)).setCell ⟨w.heap.size + 1, 1, none⟩ (.int .i64 i9)).setCell ⟨w.heap.size + 1, 2, none⟩ (.string n9)).setCell ⟨w.heap.size + 1, 3, none⟩ (.slice AL9 nl9 cl9)).setCell ⟨w.heap.size + 1, 4, none⟩ (.slice AK9 nk9 ck9)).cell? ⟨pv, 0, none⟩ = some (.slice (some ⟨bv, ov, none⟩) vals.length cv) ∧ (((((w9.setCell ⟨w.heap.size + 1, 0, none⟩ (.int .i64 k9)).setCell ⟨w.heap.size + 1, 1, none⟩ (.int .i64 i9)).setCell ⟨w.heap.size + 1, 2, none⟩ (.string n9)).setCell ⟨w.heap.size + 1, 3, none⟩ (.slice AL9 nl9 cl9)).setCell ⟨w.heap.size + 1, 4, none⟩ (.slice AK9 nk9 ck9)).cell? ⟨bv, ov + j * 5, none⟩ = some (.int .i64 qk) ∧ (((((w9.setCell ⟨w.heap.size + 1, 0, none⟩ (.int .i64 k9)).setCell ⟨w.heap.size + 1, 1, none⟩ (.int .i64 i9)).setCell ⟨w.heap.size + 1, 2, none⟩ (.string n9)).setCell ⟨w.heap.size + 1, 3, none⟩ (.slice AL9 nl9 cl9)).setCell ⟨w.heap.size + 1, 4, none⟩ (.slice AK9 nk9 ck9)).cell? ⟨bv, ov + j * 5 + 1, none⟩ = some (.int .i64 qi) ∧ (((((w9.setCell ⟨w.heap.size + 1, 0, none⟩ (.int .i64 k9)).setCell ⟨w.heap.size + 1, 1, none⟩ (.int .i64 i9)).setCell ⟨w.heap.size + 1, 2, none⟩ (.string n9)).setCell ⟨w.heap.size + 1, 3, none⟩ (.slice AL9 nl9 cl9)).setCell ⟨w.heap.size + 1, 4, none⟩ (.slice AK9 nk9 ck9)).cell? ⟨bv, ov + j * 5 + 2, none⟩ = some (.string qn) ∧ (((((w9.setCell ⟨w.heap.size + 1, 0, none⟩ (.int .i64 k9)).setCell ⟨w.heap.size + 1, 1, none⟩ (.int .i64 i9)).setCell ⟨w.heap.size + 1, 2, none⟩ (.string n9)).setCell ⟨w.heap.size + 1, 3, none⟩ (.slice AL9 nl9 cl9)).setCell ⟨w.heap.size + 1, 4, none⟩ (.slice AK9 nk9 ck9)).cell? ⟨bv, ov + j * 5 + 3, none⟩ = some (.slice qAL qnl qcl) ∧ (((((w9.setCell ⟨w.heap.size + 1, 0, none⟩ (.int .i64 k9)).setCell ⟨w.heap.size + 1, 1, none⟩ (.int .i64 i9)).setCell ⟨w.heap.size + 1, 2, none⟩ (.string n9)).setCell ⟨w.heap.size + 1, 3, none⟩ (.slice AL9 nl9 cl9)).setCell ⟨w.heap.size + 1, 4, none⟩ (.slice AK9 nk9 ck9)).cell? ⟨bv, ov + j * 5 + 4, none⟩ = some (.slice qAK qnk qck)) ∧ Hid (Bx M Old (w.heap.size + 1) (.int .i64 0) (.int .i64 0) (.string ⟨#[]⟩) (.slice none 0 0) (.slice none 0 0) w9) ∧ Hid ((Kp M w (((((w9.setCell ⟨w.heap.size + 1, 0, none⟩ (.int .i64 k9)).setCell ⟨w.heap.size + 1, 1, none⟩ (.int .i64 i9)).setCell ⟨w.heap.size + 1, 2, none⟩ (.string n9)).setCell ⟨w.heap.size + 1, 3, none⟩ (.slice AL9 nl9 cl9)).setCell ⟨w.heap.size + 1, 4, none⟩ (.slice AK9 nk9 ck9)) ∧ Inv (d + 1) (n + (cpT (shR (dep + d) 0) x 0).n) (f + (cpT (shR (dep + d) 0) x 0).f) (er e0 (cpT (shR (dep + d) 0) x 0).e) (((((w9.setCell ⟨w.heap.size + 1, 0, none⟩ (.int .i64 k9)).setCell ⟨w.heap.size + 1, 1, none⟩ (.int .i64 i9)).setCell ⟨w.heap.size + 1, 2, none⟩ (.string n9)).setCell ⟨w.heap.size + 1, 3, none⟩ (.slice AL9 nl9 cl9)).setCell ⟨w.heap.size + 1, 4, none⟩ (.slice AK9 nk9 ck9))) ∧ Bx M Old (w.heap.size + 1) (.int .i64 k9) (.int .i64 i9) (.string n9) (.slice AL9 nl9 cl9) (.slice AK9 nk9 ck9) (((((w9.setCell ⟨w.heap.size + 1, 0, none⟩ (.int .i64 k9)).setCell ⟨w.heap.size + 1, 1, none⟩ (.int .i64 i9)).setCell ⟨w.heap.size + 1, 2, none⟩ (.string n9)).setCell ⟨w.heap.size + 1, 3, none⟩ (.slice AL9 nl9 cl9)).setCell ⟨w.heap.size + 1, 4, none⟩ (.slice AK9 nk9 ck9)) ∧ TmP (((((w9.setCell ⟨w.heap.size + 1, 0, none⟩ (.int .i64 k9)).setCell ⟨w.heap.size + 1, 1, none⟩ (.int .i64 i9)).setCell ⟨w.heap.size + 1, 2, none⟩ (.string n9)).setCell ⟨w.heap.size + 1, 3, none⟩ (.slice AL9 nl9 cl9)).setCell ⟨w.heap.size + 1, 4, none⟩ (.slice AK9 nk9 ck9)) (Rs Old M w1 (((((w9.setCell ⟨w.heap.size + 1, 0, none⟩ (.int .i64 k9)).setCell ⟨w.heap.size + 1, 1, none⟩ (.int .i64 i9)).setCell ⟨w.heap.size + 1, 2, none⟩ (.string n9)).setCell ⟨w.heap.size + 1, 3, none⟩ (.slice AL9 nl9 cl9)).setCell ⟨w.heap.size + 1, 4, none⟩ (.slice AK9 nk9 ck9))) (cpT (shR (dep + d) 0) x 0).t (.agg #[.int .i64 k9, .int .i64 i9, .string n9, .slice AL9 nl9 cl9, .slice AK9 nk9 ck9])) from fun hnx e w9 h9 => by
          obtain ⟨hk9, ⟨_, v9, rfl, ht9, hi9⟩ | ⟨hb, _⟩⟩ := h9
          · obtain ⟨k9, i9, n9, AL9, nl9, cl9, AK9, nk9, ck9, rfl, _⟩ := ht9.open_
            have hk19 := h7.1.trans hk9
            have hy9 := HY1.out.next hk19
            have hs9 := HSK.out _ hk19
            have hput := Bx.put HB.out hy9 (w0 := w) ⟨HK1.out.1.trans hk19, hi9⟩ (by omega) (.int .i64 k9) (.int .i64 i9) (.string n9) (.slice AL9 nl9 cl9) (.slice AK9 nk9 ck9)
            have hkeep := Bx.keepR HB.out hy9 hi9 (w0 := w1) (by omega) ht9 (.int .i64 k9) (.int .i64 i9) (.string n9) (.slice AL9 nl9 cl9) (.slice AK9 nk9 ck9)
            have hold : ∀ q, Old q → q ≠ w.heap.size + 1 := fun q h e => HY1.out.no (e ▸ h)
            have hfar : ∀ p : Addr, p.block ≠ w.heap.size + 1 → (((((w9.setCell ⟨w.heap.size + 1, 0, none⟩ (.int .i64 k9)).setCell ⟨w.heap.size + 1, 1, none⟩ (.int .i64 i9)).setCell ⟨w.heap.size + 1, 2, none⟩ (.string n9)).setCell ⟨w.heap.size + 1, 3, none⟩ (.slice AL9 nl9 cl9)).setCell ⟨w.heap.size + 1, 4, none⟩ (.slice AK9 nk9 ck9)).cell? p = w9.cell? p := fun p hp => set5_far (o := 0) hp
            exact ⟨k9, i9, n9, AL9, nl9, cl9, AK9, nk9, ck9, rfl, hs9, ⟨(hfar _ (hold _ hod)).trans hs9.1, (hfar _ (hold _ hov)).trans hs9.2.1, (hfar _ (hold _ hob)).trans hs9.2.2.1, (hfar _ (hold _ hob)).trans hs9.2.2.2.1, (hfar _ (hold _ hob)).trans hs9.2.2.2.2.1, (hfar _ (hold _ hob)).trans hs9.2.2.2.2.2.1, (hfar _ (hold _ hob)).trans hs9.2.2.2.2.2.2⟩, hy9, hput.1, hput.2, hkeep⟩
          · omega)
        have HBD := Lib.hid (show ¬ n + (cpT (shR (dep + d) 0) x 0).n ≤ 4096 → ∀ (e : Ending) (w9 : World), (Kp M ((w1.drew.alloc (.cells #[.int .i64 (dep + d)] 3)).alloc (.cells #[.int .i64 0] 3)) w9 ∧ ((n + (cpT (shR (dep + d) 0) x 0).n ≤ 4096 ∧ ∃ v, e = .returned v ∧ TmP w9 (Rs Old M w1 w9) (cpT (shR (dep + d) 0) x 0).t v ∧ Inv (d + 1) (n + (cpT (shR (dep + d) 0) x 0).n) (f + (cpT (shR (dep + d) 0) x 0).f) (er e0 (cpT (shR (dep + d) 0) x 0).e) w9) ∨ (4096 < n + (cpT (shR (dep + d) 0) x 0).n ∧ e = .panicked outCh))) → Kp M w w9 ∧ e = .panicked outCh from fun hnx e w9 h9 => by
          obtain ⟨hk9, ⟨hb, _⟩ | ⟨_, rfl⟩⟩ := h9
          · omega
          · exact ⟨HK1.out.1.trans (h7.1.trans hk9), rfl⟩)
        have hjb : (j : Int) < (vals.length : Int) := by omega
        have hwj : IntKind.i64.wrap (j : Int) = (j : Int) := IntKind_wrap _ (by omega) (by omega)
        have hwd : IntKind.i64.wrap (dep + (d : Int)) = dep + (d : Int) := IntKind_wrap _ (by omega) (by omega)
        clear hin hj hob hks hq hD h7b h7 hsh hs7 HKV
        go_upto_region 5 with fail
        clear x0 x1 x2 x3 x4 y0 y1 y2 y3 y4 f0 f1 f2 f3 f4 g0 g1 p0 p1 p2 p3 p4
        by_cases hpan : n + (cpT (shR (dep + d) 0) x 0).n ≤ 4096
        · have HAG := Lib.hid (HAF.out hpan)
          clear HAF HBD
          go_region_held3 (fun w' => w'.cell? ⟨pd, 0, none⟩ = some (.int .i64 dep) ∧ w'.cell? ⟨pv, 0, none⟩ = some (.slice (some ⟨bv, ov, none⟩) vals.length cv) ∧ w'.cell? ⟨bv, ov + j * 5, none⟩ = some (.int .i64 qk) ∧ w'.cell? ⟨bv, ov + j * 5 + 1, none⟩ = some (.int .i64 qi) ∧ w'.cell? ⟨bv, ov + j * 5 + 2, none⟩ = some (.string qn) ∧ w'.cell? ⟨bv, ov + j * 5 + 3, none⟩ = some (.slice qAL qnl qcl) ∧ w'.cell? ⟨bv, ov + j * 5 + 4, none⟩ = some (.slice qAK qnk qck))
            (first | with_reducible exact HSD.out | with_reducible exact HS7.out | with_reducible exact HS9.out | with_reducible exact HSE.out | exact HS7.out)
            (first
              | (go_at_call 30; refine (shifter_any (dep + d) 0 _).mono ?_; rintro e w7 ⟨rfl, rfl⟩)
              | (go_at_call 35; refine HCC.out.mono ?_; intro e w9 h9; obtain ⟨k9, i9, n9, AL9, nl9, cl9, AK9, nk9, ck9, rfl, HS9, HSE, HY9, HR9⟩ := HAG.out _ _ h9; clear h9; obtain ⟨y0, y1, y2, y3, y4, f0, f1, f2, f3, f4, _, _⟩ := HY9.out))
          all_goals
            generalize (((((w9.setCell ⟨w.heap.size + 1, 0, none⟩ (.int .i64 k9)).setCell ⟨w.heap.size + 1, 1, none⟩ (.int .i64 i9)).setCell ⟨w.heap.size + 1, 2, none⟩ (.string n9)).setCell ⟨w.heap.size + 1, 3, none⟩ (.slice AL9 nl9 cl9)).setCell ⟨w.heap.size + 1, 4, none⟩ (.slice AK9 nk9 ck9)) = w8 at HR9 ⊢
            clear y0 y1 y2 y3 y4 f0 f1 f2 f3 f4
            obtain ⟨y0, y1, y2, y3, y4, _, _, _, _, _, _, _⟩ := HR9.out.2.1
            go_wp2_with fail
            exact bodyPost_ret (v := .tuple #[.agg #[.int .i64 k9, .int .i64 i9, .string n9, .slice AL9 nl9 cl9, .slice AK9 nk9 ck9], .bool true]) (by simp [results, Tryd.results33, go_sem, y0, y1, y2, y3, y4]) rfl (by rw [HR.out]; exact ⟨HR9.out.1.1, .inl ⟨hpan, _, rfl, Rs.less HR9.out.2.2 (by omega), HR9.out.1.2⟩⟩)
        · replace HBD := Lib.hid (HBD.out hpan)
          clear HAF
          refine wp_region_held_drew (S := fun w' => w'.cell? ⟨pd, 0, none⟩ = some (.int .i64 dep) ∧ w'.cell? ⟨pv, 0, none⟩ = some (.slice (some ⟨bv, ov, none⟩) vals.length cv) ∧ w'.cell? ⟨bv, ov + j * 5, none⟩ = some (.int .i64 qk) ∧ w'.cell? ⟨bv, ov + j * 5 + 1, none⟩ = some (.int .i64 qi) ∧ w'.cell? ⟨bv, ov + j * 5 + 2, none⟩ = some (.string qn) ∧ w'.cell? ⟨bv, ov + j * 5 + 3, none⟩ = some (.slice qAL qnl qcl) ∧ w'.cell? ⟨bv, ov + j * 5 + 4, none⟩ = some (.slice qAK qnk qck)) (by kernel_rfl) (HSD.out) ?_
          intro hS
          refine wpAnyH_take (i := 0) (oi := { dst := some 34, op := Op.move (Operand.tmp 0), type := 66, pos := "subst.go:39", after := #[], guard := none }) (v := .pointer (some ⟨pb, 0, none⟩)) rfl (by kernel_rfl) (by kernel_rfl) (by kernel_rfl) (fun _ _ _ h => h) (Or.inl ⟨by rfl, ?_⟩) hS ?_
          · intro w9 hSw
            obtain ⟨s0, s1, s2, s3, s4, s5, s6⟩ := hSw
            go_simp
          simp only [Act.put, List.setIfInBounds_toArray, List.set_cons_zero, List.set_cons_succ]
          refine wpAnyH_take (i := 1) (oi := { dst := some 35, op := Op.load 23 (Operand.tmp 4), type := 23, pos := "subst.go:39", after := #[], guard := none }) (v := .slice (some ⟨bv, ov, none⟩) vals.length cv) rfl (by kernel_rfl) (by kernel_rfl) (by kernel_rfl) (fun _ _ _ h => h) (Or.inl ⟨by rfl, ?_⟩) hS ?_
          · intro w9 hSw
            obtain ⟨s0, s1, s2, s3, s4, s5, s6⟩ := hSw
            go_simp
          simp only [Act.put, List.setIfInBounds_toArray, List.set_cons_zero, List.set_cons_succ]
          refine wpAnyH_take (i := 2) (oi := { dst := some 36, op := Op.move (Operand.tmp 10), type := 3, pos := "subst.go:39", after := #[], guard := none }) (v := .int .i64 (i - d)) rfl (by kernel_rfl) (by kernel_rfl) (by kernel_rfl) (fun _ _ _ h => h) (Or.inl ⟨by rfl, ?_⟩) hS ?_
          · intro w9 hSw
            obtain ⟨s0, s1, s2, s3, s4, s5, s6⟩ := hSw
            go_simp
          simp only [Act.put, List.setIfInBounds_toArray, List.set_cons_zero, List.set_cons_succ]
          refine wpAnyH_take (i := 3) (oi := { dst := some 37, op := Op.load 3 (Operand.tmp 3), type := 3, pos := "subst.go:39", after := #[], guard := none }) (v := .int .i64 dep) rfl (by kernel_rfl) (by kernel_rfl) (by kernel_rfl) (fun _ _ _ h => h) (Or.inl ⟨by rfl, ?_⟩) hS ?_
          · intro w9 hSw
            obtain ⟨s0, s1, s2, s3, s4, s5, s6⟩ := hSw
            go_simp
          simp only [Act.put, List.setIfInBounds_toArray, List.set_cons_zero, List.set_cons_succ]
          refine wpAnyH_take (i := 4) (oi := { dst := some 38, op := Op.binOp BinOp.sub 3 (Operand.tmp 36) (Operand.tmp 37) 3, type := 3, pos := "subst.go:39", after := #[{ on := 2, ground := Ground.data }, { on := 3, ground := Ground.data }], guard := none }) (v := .int .i64 (j : Int)) rfl (by kernel_rfl) (by kernel_rfl) (by kernel_rfl) (fun _ _ _ h => h) (Or.inl ⟨by rfl, ?_⟩) hS ?_
          · intro w9 hSw
            obtain ⟨s0, s1, s2, s3, s4, s5, s6⟩ := hSw
            go_simp
          simp only [Act.put, List.setIfInBounds_toArray, List.set_cons_zero, List.set_cons_succ]
          refine wpAnyH_take (i := 5) (oi := { dst := some 39, op := Op.indexAddr 23 (Operand.tmp 35) (Operand.tmp 38), type := 0, pos := "subst.go:39", after := #[{ on := 1, ground := Ground.data }, { on := 4, ground := Ground.data }], guard := none }) (v := .pointer (some ⟨bv, ov + j * 5, none⟩)) rfl (by kernel_rfl) (by kernel_rfl) (by kernel_rfl) (fun _ _ _ h => h) (Or.inl ⟨by rfl, ?_⟩) hS ?_
          · intro w9 hSw
            obtain ⟨s0, s1, s2, s3, s4, s5, s6⟩ := hSw
            go_simp
          simp only [Act.put, List.setIfInBounds_toArray, List.set_cons_zero, List.set_cons_succ]
          refine wpAnyH_take (i := 6) (oi := { dst := some 40, op := Op.load 25 (Operand.tmp 39), type := 25, pos := "subst.go:39", after := #[{ on := 5, ground := Ground.data }], guard := none }) (v := .agg #[.int .i64 qk, .int .i64 qi, .string qn, .slice qAL qnl qcl, .slice qAK qnk qck]) rfl (by kernel_rfl) (by kernel_rfl) (by kernel_rfl) (fun _ _ _ h => h) (Or.inl ⟨by rfl, ?_⟩) hS ?_
          · intro w9 hSw
            obtain ⟨s0, s1, s2, s3, s4, s5, s6⟩ := hSw
            go_simp
          simp only [Act.put, List.setIfInBounds_toArray, List.set_cons_zero, List.set_cons_succ]
          refine wpAnyH_take (i := 7) (oi := { dst := some 41, op := Op.load 3 (Operand.tmp 3), type := 3, pos := "subst.go:39", after := #[], guard := none }) (v := .int .i64 dep) rfl (by kernel_rfl) (by kernel_rfl) (by kernel_rfl) (fun _ _ _ h => h) (Or.inl ⟨by rfl, ?_⟩) hS ?_
          · intro w9 hSw
            obtain ⟨s0, s1, s2, s3, s4, s5, s6⟩ := hSw
            go_simp
          simp only [Act.put, List.setIfInBounds_toArray, List.set_cons_zero, List.set_cons_succ]
          refine wpAnyH_take (i := 8) (oi := { dst := some 42, op := Op.move (Operand.tmp 2), type := 3, pos := "subst.go:39", after := #[], guard := none }) (v := .int .i64 (d : Int)) rfl (by kernel_rfl) (by kernel_rfl) (by kernel_rfl) (fun _ _ _ h => h) (Or.inl ⟨by rfl, ?_⟩) hS ?_
          · intro w9 hSw
            obtain ⟨s0, s1, s2, s3, s4, s5, s6⟩ := hSw
            go_simp
          simp only [Act.put, List.setIfInBounds_toArray, List.set_cons_zero, List.set_cons_succ]
          refine wpAnyH_take (i := 9) (oi := { dst := some 43, op := Op.binOp BinOp.add 3 (Operand.tmp 41) (Operand.tmp 42) 3, type := 3, pos := "subst.go:39", after := #[{ on := 7, ground := Ground.data }, { on := 8, ground := Ground.data }], guard := none }) (v := .int .i64 (dep + d)) rfl (by kernel_rfl) (by kernel_rfl) (by kernel_rfl) (fun _ _ _ h => h) (Or.inl ⟨by rfl, ?_⟩) hS ?_
          · intro w9 hSw
            obtain ⟨s0, s1, s2, s3, s4, s5, s6⟩ := hSw
            go_simp
          simp only [Act.put, List.setIfInBounds_toArray, List.set_cons_zero, List.set_cons_succ]
          refine wpAnyH_ready (rs := [10]) (by kernel_rfl) (List.cons_ne_nil _ _) ?_
          refine AllReadyH.cons (o := { dst := some 44, op := Op.call { callee := Callee.value (Operand.func 30), args := #[Operand.tmp 43, Operand.const (Value.int IntKind.i64 0)], argTypes := #[3, 3] }, type := 59, pos := "subst.go:39", after := #[{ on := 9, ground := Ground.data }], guard := none }) rfl (fun K hK => ?_) AllReadyH.nil
          go_simp
          go_at_call 30
          refine (shifter_any (dep + d) 0 _).mono ?_
          rintro e w7 ⟨rfl, rfl⟩
          try go_simp
          refine hK _ _ (HS7.out) ?_
          clear hS
          intro hS
          clear hK K
          refine wpAnyH_ready (rs := [11]) (by kernel_rfl) (List.cons_ne_nil _ _) ?_
          refine AllReadyH.cons (o := { dst := some 45, op := Op.call { callee := Callee.value (Operand.func 35), args := #[Operand.tmp 34, Operand.tmp 40, Operand.const (Value.int IntKind.i64 0), Operand.tmp 44], argTypes := #[66, 25, 3, 59] }, type := 25, pos := "subst.go:39", after := #[{ on := 0, ground := Ground.data }, { on := 6, ground := Ground.data }, { on := 10, ground := Ground.data }, { on := 10, ground := Ground.chain }], guard := none }) rfl (fun K hK => ?_) AllReadyH.nil
          go_simp
          go_at_call 35
          refine HCC.out.mono ?_
          rintro e w8 h8
          obtain ⟨hk8, rfl⟩ := HBD.out _ _ h8
          have HK8 := Lib.hid hk8
          clear h8 hk8
          exact ⟨rfl, by rw [HR.out]; exact ⟨HK8.out, .inr ⟨by show 4096 < n + _; omega, rfl⟩⟩⟩
      · have h2 : decide (i - d - dep < (vals.length : Int)) = false := by rw [decide_eq_false_iff_not]; omega
        have HR := Lib.hid (show r = some ⟨1, 0, big (i - vals.length), vr (i - vals.length)⟩ by rw [← HRR.out]; simp only [undR]; rw [if_pos ⟨hk0, hdi, hff⟩, List.getElem?_eq_none (by omega)])
        go_wp2_with fail
        refine (moved_any HB.out HK1.out.2 hn (i - vals.length) (by omega)).mono ?_
        rintro e w3 ⟨hkk, ⟨hnn, v, rfl, htm, hinv⟩ | ⟨hnn, rfl⟩⟩
        · have HK3 := Lib.hid (And.intro (HK1.out.1.trans hkk) hinv)
          have HY3 := Lib.hid (HY1.out.next hkk)
          unfold vr at htm
          rw [TmP] at htm
          obtain ⟨AL', cl', AK', ck', rfl, _, _, _⟩ := htm
          clear x0 x1 x2 x3 x4 g0 g1 hkk hinv HX1 HY1 HK1 y0 y1 y2 y3 y4 f0 f1 f2 f3 f4
          obtain ⟨y0, y1, y2, y3, y4, f0, f1, f2, f3, f4, _, _⟩ := HY3.out
          go_wp2_with fail
          have h4 := Bx.put HB.out HY3.out HK3.out (by omega) (.int .i64 0) (.int .i64 (i - vals.length)) (.string ⟨#[]⟩) (.slice AL' 0 cl') (.slice AK' 0 ck')
          generalize (((((w3.setCell ⟨w.heap.size + 1, 0, none⟩ (.int .i64 0)).setCell ⟨w.heap.size + 1, 1, none⟩ (.int .i64 (i - vals.length))).setCell ⟨w.heap.size + 1, 2, none⟩ (.string ⟨#[]⟩)).setCell ⟨w.heap.size + 1, 3, none⟩ (.slice AL' 0 cl')).setCell ⟨w.heap.size + 1, 4, none⟩ (.slice AK' 0 ck')) = w4 at h4 ⊢
          clear y0 y1 y2 y3 y4 f0 f1 f2 f3 f4
          obtain ⟨y0, y1, y2, y3, y4, _, _, _, _, _, _, _⟩ := h4.2
          exact bodyPost_ret (v := .tuple #[.agg #[.int .i64 0, .int .i64 (i - vals.length), .string ⟨#[]⟩, .slice AL' 0 cl', .slice AK' 0 ck'], .bool true]) (by simp [results, Tryd.results33, go_sem, y0, y1, y2, y3, y4]) rfl (by rw [HR.out]; exact ⟨h4.1.1, .inl ⟨hnn, _, rfl, tmP_vr' _ _ _ _ _ _ _, h4.1.2⟩⟩)
        · have HK3 := Lib.hid (HK1.out.1.trans hkk)
          clear x0 x1 x2 x3 x4 g0 g1 hkk HX1 HY1 HK1
          go_wp2_with fail
          exact ⟨rfl, by rw [HR.out]; exact ⟨HK3.out, .inr ⟨hnn, rfl⟩⟩⟩
    · have h1 : decide (i - d < dep) = true := by rw [decide_eq_true_eq]; omega
      have HR := Lib.hid (show r = none by rw [← HRR.out]; simp only [undR]; rw [if_neg (by omega)])
      go_wp2_with fail
      have h4 := Bx.put HB.out HY1.out HK1.out (by omega) (.int .i64 0) (.int .i64 0) (.string ⟨#[]⟩) (.slice none 0 0) (.slice none 0 0)
      generalize (((((w1.setCell ⟨w.heap.size + 1, 0, none⟩ (.int .i64 0)).setCell ⟨w.heap.size + 1, 1, none⟩ (.int .i64 0)).setCell ⟨w.heap.size + 1, 2, none⟩ (.string ⟨#[]⟩)).setCell ⟨w.heap.size + 1, 3, none⟩ (.slice none 0 0)).setCell ⟨w.heap.size + 1, 4, none⟩ (.slice none 0 0)) = w4 at h4 ⊢
      clear y0 y1 y2 y3 y4 f0 f1 f2 f3 f4
      obtain ⟨y0, y1, y2, y3, y4, _, _, _, _, _, _, _⟩ := h4.2
      exact bodyPost_ret (v := .tuple #[.agg #[.int .i64 0, .int .i64 0, .string ⟨#[]⟩, .slice none 0 0, .slice none 0 0], .bool false]) (by simp [results, Tryd.results33, go_sem, y0, y1, y2, y3, y4]) rfl (by rw [HR.out]; exact ⟨rfl, h4.1.1, h4.1.2⟩)
  · rw [if_neg hfree, decide_eq_false hfree]
    have HR := Lib.hid (show r = none by rw [← HRR.out]; simp only [undR]; rw [if_neg (fun e => hfree ⟨e.1, e.2.1⟩)])
    go_wp2_with fail
    have h4 := Bx.put HB.out HY1.out HK1.out (by omega) (.int .i64 0) (.int .i64 0) (.string ⟨#[]⟩) (.slice none 0 0) (.slice none 0 0)
    generalize (((((w1.setCell ⟨w.heap.size + 1, 0, none⟩ (.int .i64 0)).setCell ⟨w.heap.size + 1, 1, none⟩ (.int .i64 0)).setCell ⟨w.heap.size + 1, 2, none⟩ (.string ⟨#[]⟩)).setCell ⟨w.heap.size + 1, 3, none⟩ (.slice none 0 0)).setCell ⟨w.heap.size + 1, 4, none⟩ (.slice none 0 0)) = w4 at h4 ⊢
    clear y0 y1 y2 y3 y4 f0 f1 f2 f3 f4
    obtain ⟨y0, y1, y2, y3, y4, _, _, _, _, _, _, _⟩ := h4.2
    exact bodyPost_ret (v := .tuple #[.agg #[.int .i64 0, .int .i64 0, .string ⟨#[]⟩, .slice none 0 0, .slice none 0 0], .bool false]) (by simp [results, Tryd.results33, go_sem, y0, y1, y2, y3, y4]) rfl (by rw [HR.out]; exact ⟨rfl, h4.1.1, h4.1.2⟩)
end
end Go.Proofs.YtobaeeobfcffoaaDoor
