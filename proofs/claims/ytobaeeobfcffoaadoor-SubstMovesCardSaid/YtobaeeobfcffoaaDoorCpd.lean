/- copied: the walk that copies a term and replaces nodes. -/
import Derived.Test.YtobaeeobfcffoaaDoorMkk
import Derived.Deep.DeepCutAuto
import Derived.Deep.RegionHeld3
namespace Go.Proofs.YtobaeeobfcffoaaDoor
open Go.RowKit
section
variable {pb : Nat} {Old : Nat → Prop} {Inv : Nat → Nat → Nat → Int → World → Prop} {M : World → Nat → Prop}
/-- A replacer, as a closure. -/
def Rep (pb : Nat) (Old : Nat → Prop) (Inv : Nat → Nat → Nat → Int → World → Prop) (M : World → Nat → Prop) (Q : Tm → Nat → Prop) (fn : FuncId) (cap : Array Value) (R : Tm → Nat → Option Ou) : Prop :=
  ∀ (k i : Int) (nm : ByteArray) (AL : Option Addr) (cl : Nat) (ls : List (Int × List (Int × Int))) (AK : Option Addr) (ck : Nat) (ks : List Tm) (d n f : Nat) (e : Int) (w : World),
    AllT Q (.mk k i nm ls ks) d → d ≤ 1000000000 → TmP w Old (.mk k i nm ls ks) (.agg #[.int .i64 k, .int .i64 i, .string nm, .slice AL ls.length cl, .slice AK ks.length ck]) → Inv d n f e w → n ≤ 4096 →
    Calls Tryd.prog fn (#[.pointer (some ⟨pb, 0, none⟩), .agg #[.int .i64 k, .int .i64 i, .string nm, .slice AL ls.length cl, .slice AK ks.length ck], .int .i64 d] ++ cap) w (fun e' w' => RepPost Old Inv M d n f e w e' w' (R (.mk k i nm ls ks) d))

theorem LvsP.old {w w' : World} (h : Kp M w w') (ho : ∀ k, Old k → ¬ M w k) {A : Option Addr} {ls : List (Int × List (Int × Int))} (hl : LvsP w Old A ls) : LvsP w' Old A ls := by
  have h1 : LvsP w (fun k => Old k ∧ k < w.heap.size) A ls := hl.mono (fun k hm hk => ⟨hm, hk⟩)
  exact (h1.keep (fun p hp => h.cell hp.2 (ho _ hp.1))).mono (fun k hk _ => hk.1)
theorem LvsP.next {w w' : World} {P : Nat → Prop} (h : Kp M w w') {A : Option Addr} {ls : List (Int × List (Int × Int))} (hl : LvsP w (fun k => P k ∧ ¬ M w k) A ls) : LvsP w' (fun k => P k ∧ ¬ M w' k) A ls := by
  have h1 : LvsP w (fun k => (P k ∧ ¬ M w k) ∧ k < w.heap.size) A ls := hl.mono (fun k hm hk => ⟨hm, hk⟩)
  exact (h1.keep (fun p hp => h.cell hp.2 hp.1.2)).mono (fun k hk _ => ⟨hk.1.1, h.out hk.2 hk.1.2⟩)
theorem Bld.shrink (hB : Bld pb Old Inv M) {d n f : Nat} {e : Int} {w w' : World} (hi : Inv d n f e w) (hb : Below w.heap.size w w') : ∀ k, M w' k → M w k := (hB.still hi (Still.of hb)).2
theorem lv_of (hB : Bld pb Old Inv M) {d n f : Nat} {e : Int} {w0 w3 w7 : World} (hi : Inv d n f e w7) (hi3 : Inv d n f e w3) (hm : ∀ k, M w7 k → M w3 k) {s : Nat} (hs : w0.heap.size ≤ s) (hs3 : w3.heap.size ≤ s) {A : Option Addr} {ls : List (Int × List (Int × Int))} (h : LvsP w7 (fun k => s ≤ k ∨ Old k) A ls) {rb : Nat} (hrb : ∀ q, (s ≤ q ∨ Old q) → q < w7.heap.size → q ≠ rb ∧ q ≠ w0.heap.size + 1) :
    LvsP w7 (fun q => ((Old q ∨ w0.heap.size ≤ q) ∧ q ≠ rb ∧ q ≠ w0.heap.size + 1 ∧ True) ∧ ¬ M w7 q) A ls :=
  h.mono fun q hq hl => ⟨⟨hq.elim (fun h => .inr (Nat.le_trans hs h)) .inl, (hrb q hq hl).1, (hrb q hq hl).2, trivial⟩, fun hm7 => hq.elim (fun h => by have := (hB.lt hi3 (hm q hm7)).1; omega) (fun h => (hB.lt hi hm7).2 h)⟩
def set5 (w : World) (b o : Nat) (v0 v1 v2 v3 v4 : Value) : World := ((((w.setCell ⟨b, o, none⟩ v0).setCell ⟨b, o + 1, none⟩ v1).setCell ⟨b, o + 2, none⟩ v2).setCell ⟨b, o + 3, none⟩ v3).setCell ⟨b, o + 4, none⟩ v4
theorem set5_far {w : World} {b o : Nat} {v0 v1 v2 v3 v4 : Value} {p : Addr} (hne : p.block ≠ b) : (set5 w b o v0 v1 v2 v3 v4).cell? p = w.cell? p := by
  have ho : ∀ (w : World) (j : Nat) (v : Value), (w.setCell ⟨b, j, none⟩ v).cell? p = w.cell? p := fun w j v => World.cell?_setCell_other _ _ _ _ (by rintro rfl; exact hne rfl)
  unfold set5
  rw [ho, ho, ho, ho, ho]
theorem set5_m (hB : Bld pb Old Inv M) {d n f : Nat} {e : Int} {w : World} {b o : Nat} (hi : Inv d n f e w) (hno : ¬ Old b) (hnm : ¬ M w b) {v0 v1 v2 v3 v4 : Value} : ∀ k, M (set5 w b o v0 v1 v2 v3 v4) k → M w k :=
  (hB.still hi ⟨by simp [set5, World.setCell], fun k hk _ => by
    have hne : k ≠ b := by rintro rfl; exact hk.elim hno hnm
    unfold set5
    rw [Below.heap_setCell _ _ _ _ hne, Below.heap_setCell _ _ _ _ hne, Below.heap_setCell _ _ _ _ hne, Below.heap_setCell _ _ _ _ hne, Below.heap_setCell _ _ _ _ hne]⟩).2
theorem set5_kp (hB : Bld pb Old Inv M) {d n f : Nat} {e : Int} {w0 w : World} {b o : Nat} (hk : Kp M w0 w) (hi : Inv d n f e w) (hb : w0.heap.size ≤ b) (hno : ¬ Old b) (hnm : ¬ M w b) (v0 v1 v2 v3 v4 : Value) : Kp M w0 (set5 w b o v0 v1 v2 v3 v4) ∧ Inv d n f e (set5 w b o v0 v1 v2 v3 v4) := by
  have h5 := Kp.put hB (Kp.put hB (Kp.put hB (Kp.put hB (Kp.put hB ⟨hk, hi, hnm⟩ hb hno o v0) hb hno (o + 1) v1) hb hno (o + 2) v2) hb hno (o + 3) v3) hb hno (o + 4) v4
  exact ⟨h5.1, h5.2.1⟩
theorem set5_tm (hB : Bld pb Old Inv M) {d n f : Nat} {e : Int} {w : World} {b o : Nat} (hi : Inv d n f e w) (hno : ¬ Old b) (hnm : ¬ M w b) {v0 v1 v2 v3 v4 : Value} {P : Nat → Prop} (hp : ∀ q, P q → q ≠ b) {t : Tm} {v : Value} (h : TmP w (fun q => P q ∧ ¬ M w q) t v) : TmP (set5 w b o v0 v1 v2 v3 v4) (fun q => P q ∧ ¬ M (set5 w b o v0 v1 v2 v3 v4) q) t v :=
  TmP.mono (fun k hk _ => ⟨hk.1, fun h => hk.2 (set5_m hB hi hno hnm k h)⟩) t v (TmP.keep (fun _ hpp => set5_far (hp _ hpp.1)) t v h)
theorem set5_lv (hB : Bld pb Old Inv M) {d n f : Nat} {e : Int} {w : World} {b o : Nat} (hi : Inv d n f e w) (hno : ¬ Old b) (hnm : ¬ M w b) {v0 v1 v2 v3 v4 : Value} {P : Nat → Prop} (hp : ∀ q, P q → q ≠ b) {A : Option Addr} {ls : List (Int × List (Int × Int))} (h : LvsP w (fun q => P q ∧ ¬ M w q) A ls) : LvsP (set5 w b o v0 v1 v2 v3 v4) (fun q => P q ∧ ¬ M (set5 w b o v0 v1 v2 v3 v4) q) A ls :=
  (h.keep (fun _ hpp => set5_far (hp _ hpp.1))).mono (fun k hk _ => ⟨hk.1, fun h => hk.2 (set5_m hB hi hno hnm k h)⟩)
theorem set5_bx (hB : Bld pb Old Inv M) {d n f : Nat} {e : Int} {w : World} {b o b' : Nat} (hi : Inv d n f e w) (hno : ¬ Old b) (hnm : ¬ M w b) (hne : b' ≠ b) {v0 v1 v2 v3 v4 c0 c1 c2 c3 c4 : Value} (h : Bx M Old b' c0 c1 c2 c3 c4 w) : Bx M Old b' c0 c1 c2 c3 c4 (set5 w b o v0 v1 v2 v3 v4) := by
  have hf : ∀ j, (set5 w b o v0 v1 v2 v3 v4).frozen? ⟨b', j, none⟩ = w.frozen? ⟨b', j, none⟩ := fun j => by
    refine World.frozen?_of_block (w := w) ?_
    show (set5 w b o v0 v1 v2 v3 v4).heap[b']? = w.heap[b']?
    unfold set5
    rw [Below.heap_setCell _ _ _ _ hne, Below.heap_setCell _ _ _ _ hne, Below.heap_setCell _ _ _ _ hne, Below.heap_setCell _ _ _ _ hne, Below.heap_setCell _ _ _ _ hne]
  exact ⟨(set5_far hne).trans h.x0, (set5_far hne).trans h.x1, (set5_far hne).trans h.x2, (set5_far hne).trans h.x3, (set5_far hne).trans h.x4, (hf 0).trans h.f0, (hf 1).trans h.f1, (hf 2).trans h.f2, (hf 3).trans h.f3, (hf 4).trans h.f4, fun h' => h.nm (set5_m hB hi hno hnm _ h'), h.no⟩
theorem TmP.nextP {w w' : World} (hk : Kp M w w') {P : Nat → Prop} {t : Tm} {v : Value} (h : TmP w (fun q => P q ∧ ¬ M w q) t v) : TmP w' (fun q => P q ∧ ¬ M w' q) t v := by
  have h1 : TmP w (fun k => (P k ∧ ¬ M w k) ∧ k < w.heap.size) t v := TmP.mono (fun k hm hk => ⟨hm, hk⟩) t v h
  exact TmP.mono (fun k hk' _ => ⟨hk'.1.1, hk.out hk'.2 hk'.1.2⟩) t v (TmP.keep (fun p hp => hk.cell hp.2 hp.1.2) t v h1)
/-- The kids that have been copied. -/
structure Kl (Old : Nat → Prop) (M : World → Nat → Prop) (w0 : World) (rb kb len : Nat) (ts : List Tm) (wx : World) : Prop where
  lt : kb < wx.heap.size
  nm : ¬ M wx kb
  no : ¬ Old kb
  gt : w0.heap.size + 1 < kb
  ne : kb ≠ rb
  fz : ∀ j, wx.frozen? ⟨kb, j, none⟩ = false
  ex : ∀ j, j < len * 5 → ∃ u, wx.cell? ⟨kb, j, none⟩ = some u
  tm : ∀ i t, ts[i]? = some t → ∃ c0 c1 c2 c3 c4, wx.cell? ⟨kb, i * 5, none⟩ = some c0 ∧ wx.cell? ⟨kb, i * 5 + 1, none⟩ = some c1 ∧ wx.cell? ⟨kb, i * 5 + 2, none⟩ = some c2 ∧ wx.cell? ⟨kb, i * 5 + 3, none⟩ = some c3 ∧ wx.cell? ⟨kb, i * 5 + 4, none⟩ = some c4 ∧ TmP wx (fun q => ((Old q ∨ w0.heap.size ≤ q) ∧ q ≠ rb ∧ q ≠ w0.heap.size + 1 ∧ q ≠ kb) ∧ ¬ M wx q) t (.agg #[c0, c1, c2, c3, c4])
theorem Kl.next {w0 w w' : World} {rb kb len : Nat} {ts : List Tm} (h : Kl Old M w0 rb kb len ts w) (hk : Kp M w w') : Kl Old M w0 rb kb len ts w' :=
  ⟨Nat.lt_of_lt_of_le h.lt hk.size, hk.out h.lt h.nm, h.no, h.gt, h.ne, fun j => (hk.frozen (p := ⟨kb, j, none⟩) h.lt h.nm).trans (h.fz j), fun j hj => by
    obtain ⟨u, hu⟩ := h.ex j hj
    exact ⟨u, hk.cell' hu h.nm⟩, fun i t hi => by
    obtain ⟨c0, c1, c2, c3, c4, h0, h1, h2, h3, h4, ht⟩ := h.tm i t hi
    exact ⟨c0, c1, c2, c3, c4, hk.cell' h0 h.nm, hk.cell' h1 h.nm, hk.cell' h2 h.nm, hk.cell' h3 h.nm, hk.cell' h4 h.nm, TmP.nextP hk ht⟩⟩
theorem set5_at {w : World} {b o : Nat} {v0 v1 v2 v3 v4 : Value} (h : ∀ i, i < 5 → ∃ u, w.cell? ⟨b, o + i, none⟩ = some u) : (set5 w b o v0 v1 v2 v3 v4).cell? ⟨b, o, none⟩ = some v0 ∧ (set5 w b o v0 v1 v2 v3 v4).cell? ⟨b, o + 1, none⟩ = some v1 ∧ (set5 w b o v0 v1 v2 v3 v4).cell? ⟨b, o + 2, none⟩ = some v2 ∧ (set5 w b o v0 v1 v2 v3 v4).cell? ⟨b, o + 3, none⟩ = some v3 ∧ (set5 w b o v0 v1 v2 v3 v4).cell? ⟨b, o + 4, none⟩ = some v4 := by
  obtain ⟨u0, h0⟩ := h 0 (by omega)
  obtain ⟨u1, h1⟩ := h 1 (by omega)
  obtain ⟨u2, h2⟩ := h 2 (by omega)
  obtain ⟨u3, h3⟩ := h 3 (by omega)
  obtain ⟨u4, h4⟩ := h 4 (by omega)
  unfold set5
  refine ⟨?_, ?_, ?_, ?_, ?_⟩
  · exact set_other (set_other (set_other (set_other (set_same h0) (by omega)) (by omega)) (by omega)) (by omega)
  · exact set_other (set_other (set_other (set_same (set_other h1 (by omega))) (by omega)) (by omega)) (by omega)
  · exact set_other (set_other (set_same (set_other (set_other h2 (by omega)) (by omega))) (by omega)) (by omega)
  · exact set_other (set_same (set_other (set_other (set_other h3 (by omega)) (by omega)) (by omega))) (by omega)
  · exact set_same (set_other (set_other (set_other (set_other h4 (by omega)) (by omega)) (by omega)) (by omega))
theorem set5_else {w : World} {b o j : Nat} {v0 v1 v2 v3 v4 c : Value} (h : w.cell? ⟨b, j, none⟩ = some c) (hj : j < o ∨ o + 5 ≤ j) : (set5 w b o v0 v1 v2 v3 v4).cell? ⟨b, j, none⟩ = some c := by
  unfold set5
  exact set_other (set_other (set_other (set_other (set_other h (by omega)) (by omega)) (by omega)) (by omega)) (by omega)
theorem Kl.put (hB : Bld pb Old Inv M) {d n f : Nat} {e : Int} {w0 w1 w : World} {rb kb len : Nat} {ts : List Tm} (h : Kl Old M w0 rb kb len ts w) (hi : Inv d n f e w) (hl : ts.length < len) (h1 : w0.heap.size ≤ w1.heap.size) (hr : rb < w1.heap.size) (hk : kb < w1.heap.size) (hnr : ¬ Old rb) (hn8 : ¬ Old (w0.heap.size + 1)) {t : Tm} {c0 c1 c2 c3 c4 : Value} (ht : TmP w (Rs Old M w1 w) t (.agg #[c0, c1, c2, c3, c4])) :
    Kl Old M w0 rb kb len (ts ++ [t]) (set5 w kb (ts.length * 5) c0 c1 c2 c3 c4) := by
  have hf : ∀ j, (set5 w kb (ts.length * 5) c0 c1 c2 c3 c4).frozen? ⟨kb, j, none⟩ = false := fun j => by
    have := h.fz j
    unfold set5
    go_simp
  have hP : ∀ q, ((Old q ∨ w0.heap.size ≤ q) ∧ q ≠ rb ∧ q ≠ w0.heap.size + 1 ∧ q ≠ kb) → q ≠ kb := fun q hq => hq.2.2.2
  refine ⟨by simpa [set5, World.setCell] using h.lt, fun h' => h.nm (set5_m hB hi h.no h.nm _ h'), h.no, h.gt, h.ne, hf, fun j hj => ?_, fun i q hq => ?_⟩
  · obtain ⟨u, hu⟩ := h.ex j hj
    have h5 := set5_at (w := w) (b := kb) (o := ts.length * 5) (v0 := c0) (v1 := c1) (v2 := c2) (v3 := c3) (v4 := c4) (fun i hi => h.ex _ (by omega))
    by_cases hj5 : j < ts.length * 5 ∨ ts.length * 5 + 5 ≤ j
    · exact ⟨u, set5_else hu hj5⟩
    · have : j = ts.length * 5 ∨ j = ts.length * 5 + 1 ∨ j = ts.length * 5 + 2 ∨ j = ts.length * 5 + 3 ∨ j = ts.length * 5 + 4 := by omega
      rcases this with rfl | rfl | rfl | rfl | rfl
      · exact ⟨_, h5.1⟩
      · exact ⟨_, h5.2.1⟩
      · exact ⟨_, h5.2.2.1⟩
      · exact ⟨_, h5.2.2.2.1⟩
      · exact ⟨_, h5.2.2.2.2⟩
  · by_cases hil : i < ts.length
    · rw [List.getElem?_append_left hil] at hq
      obtain ⟨e0, e1, e2, e3, e4, g0, g1, g2, g3, g4, gt⟩ := h.tm i q hq
      exact ⟨e0, e1, e2, e3, e4, set5_else g0 (by omega), set5_else g1 (by omega), set5_else g2 (by omega), set5_else g3 (by omega), set5_else g4 (by omega), set5_tm hB hi h.no h.nm hP gt⟩
    · have hii := (List.getElem?_eq_some_iff.1 hq).1
      rw [List.length_append, List.length_singleton] at hii
      obtain rfl : i = ts.length := by omega
      rw [List.getElem?_append_right (Nat.le_refl _), Nat.sub_self] at hq
      simp only [List.getElem?_cons_zero, Option.some.injEq] at hq
      subst hq
      have h5 := set5_at (w := w) (b := kb) (o := ts.length * 5) (v0 := c0) (v1 := c1) (v2 := c2) (v3 := c3) (v4 := c4) (fun i hi => h.ex _ (by omega))
      refine ⟨c0, c1, c2, c3, c4, h5.1, h5.2.1, h5.2.2.1, h5.2.2.2.1, h5.2.2.2.2, set5_tm hB hi h.no h.nm hP (TmP.mono (fun k hk' _ => ⟨⟨hk'.1.elim .inl (fun h => .inr (Nat.le_trans h1 h)), ?_, ?_, ?_⟩, hk'.2⟩) _ _ ht)⟩
      · rintro rfl; exact hk'.1.elim hnr (fun h => by omega)
      · rintro rfl; exact hk'.1.elim hn8 (fun h' => by have := h.gt; omega)
      · rintro rfl; exact hk'.1.elim h.no (fun h => by omega)
theorem Bx.keepL (hB : Bld pb Old Inv M) {d n f : Nat} {e : Int} {b : Nat} {c0 c1 c2 c3 c4 : Value} {w : World} (h : Bx M Old b c0 c1 c2 c3 c4 w) (hi : Inv d n f e w) {P : Nat → Prop} {A : Option Addr} {ls : List (Int × List (Int × Int))} (hp : ∀ q, P q → q ≠ b) (hl : LvsP w (fun q => P q ∧ ¬ M w q) A ls) (v0 v1 v2 v3 v4 : Value) :
    LvsP (((((w.setCell ⟨b, 0, none⟩ v0).setCell ⟨b, 1, none⟩ v1).setCell ⟨b, 2, none⟩ v2).setCell ⟨b, 3, none⟩ v3).setCell ⟨b, 4, none⟩ v4) (fun q => P q ∧ ¬ M (((((w.setCell ⟨b, 0, none⟩ v0).setCell ⟨b, 1, none⟩ v1).setCell ⟨b, 2, none⟩ v2).setCell ⟨b, 3, none⟩ v3).setCell ⟨b, 4, none⟩ v4) q) A ls := by
  have hm : ∀ k, M (((((w.setCell ⟨b, 0, none⟩ v0).setCell ⟨b, 1, none⟩ v1).setCell ⟨b, 2, none⟩ v2).setCell ⟨b, 3, none⟩ v3).setCell ⟨b, 4, none⟩ v4) k → M w k := (hB.still hi ⟨by simp [World.setCell], fun k hk _ => by
    have hne : k ≠ b := by rintro rfl; exact hk.elim h.no h.nm
    rw [Below.heap_setCell _ _ _ _ hne, Below.heap_setCell _ _ _ _ hne, Below.heap_setCell _ _ _ _ hne, Below.heap_setCell _ _ _ _ hne, Below.heap_setCell _ _ _ _ hne]⟩).2
  refine (hl.keep fun p hpp => ?_).mono (fun k hk _ => ⟨hk.1, fun h => hk.2 (hm k h)⟩)
  have hne : p.block ≠ b := hp _ hpp.1
  have ho : ∀ (w : World) (j : Nat) (v : Value), (w.setCell ⟨b, j, none⟩ v).cell? p = w.cell? p := fun w j v => World.cell?_setCell_other _ _ _ _ (by rintro rfl; exact hne rfl)
  rw [ho, ho, ho, ho, ho]
/-- The state behind the making of the copy: the term's box, the result's box, the copy. -/
structure Cs (Old : Nat → Prop) (Inv : Nat → Nat → Nat → Int → World → Prop) (M : World → Nat → Prop) (w0 : World) (d n f : Nat) (e : Int) (k i : Int) (nm : ByteArray) (sl sk : Value) (ls : List (Int × List (Int × Int))) (rb : Nat) (A : Option Addr) (cap : Nat) (kv : Value) (P : Nat → Prop) (wx : World) : Prop where
  kp : Kp M w0 wx
  inv : Inv (d + 1) n f e wx
  bt : Bx M Old w0.heap.size (.int .i64 k) (.int .i64 i) (.string nm) sl sk wx
  b8 : Bx M Old (w0.heap.size + 1) (.int .i64 0) (.int .i64 0) (.string ⟨#[]⟩) (.slice none 0 0) (.slice none 0 0) wx
  bc : Bx M Old rb (.int .i64 k) (.int .i64 i) (.string nm) (.slice A ls.length cap) kv wx
  lo : w0.heap.size + 1 < rb
  lv : LvsP wx (fun q => ((Old q ∨ w0.heap.size ≤ q) ∧ q ≠ rb ∧ q ≠ w0.heap.size + 1 ∧ P q) ∧ ¬ M wx q) A ls
theorem Cs.next {w0 wx wy : World} {d n n' f f' : Nat} {e e' k i : Int} {nm : ByteArray} {sl sk kv : Value} {ls : List (Int × List (Int × Int))} {rb cap : Nat} {A : Option Addr} {P : Nat → Prop} (h : Cs Old Inv M w0 d n f e k i nm sl sk ls rb A cap kv P wx) (hk : Kp M wx wy) (hi : Inv (d + 1) n' f' e' wy) : Cs Old Inv M w0 d n' f' e' k i nm sl sk ls rb A cap kv P wy :=
  ⟨h.kp.trans hk, hi, h.bt.next hk, h.b8.next hk, h.bc.next hk, h.lo, LvsP.next hk h.lv⟩

theorem Cs.put4 (hB : Bld pb Old Inv M) {w0 wx : World} {d n f : Nat} {e k i : Int} {nm : ByteArray} {sl sk kv : Value} {ls : List (Int × List (Int × Int))} {rb cap : Nat} {A : Option Addr} (h : Cs Old Inv M w0 d n f e k i nm sl sk ls rb A cap kv (fun _ => True) wx) (v : Value) : Cs Old Inv M w0 d n f e k i nm sl sk ls rb A cap v (fun q => q ≠ wx.heap.size) (wx.setCell ⟨rb, 4, none⟩ v) := by
  have hlo := h.lo
  have h1 := Kp.put hB ⟨h.kp, h.inv, h.bc.nm⟩ (by omega) h.bc.no 4 v
  have hm : ∀ q, M (wx.setCell ⟨rb, 4, none⟩ v) q → M wx q := (hB.still h.inv ⟨by simp [World.setCell], fun q hq _ => Below.heap_setCell _ _ _ _ (by rintro rfl; exact hq.elim h.bc.no h.bc.nm)⟩).2
  have hc : ∀ p : Addr, p.block ≠ rb → (wx.setCell ⟨rb, 4, none⟩ v).cell? p = wx.cell? p := fun p hp => World.cell?_setCell_other _ _ _ _ (by rintro rfl; exact hp rfl)
  have hfz : ∀ p : Addr, p.block ≠ rb → (wx.setCell ⟨rb, 4, none⟩ v).frozen? p = wx.frozen? p := fun p hp => World.frozen?_of_block (w := wx) (Below.heap_setCell _ _ _ _ hp)
  have hb : ∀ {b : Nat} {c0 c1 c2 c3 c4 : Value}, b ≠ rb → Bx M Old b c0 c1 c2 c3 c4 wx → Bx M Old b c0 c1 c2 c3 c4 (wx.setCell ⟨rb, 4, none⟩ v) := fun {b c0 c1 c2 c3 c4} hne hx => ⟨(hc _ hne).trans hx.x0, (hc _ hne).trans hx.x1, (hc _ hne).trans hx.x2, (hc _ hne).trans hx.x3, (hc _ hne).trans hx.x4, (hfz _ hne).trans hx.f0, (hfz _ hne).trans hx.f1, (hfz _ hne).trans hx.f2, (hfz _ hne).trans hx.f3, (hfz _ hne).trans hx.f4, fun h' => hx.nm (hm _ h'), hx.no⟩
  have hf : ∀ j, wx.frozen? ⟨rb, j, none⟩ = false → (wx.setCell ⟨rb, 4, none⟩ v).frozen? ⟨rb, j, none⟩ = false := fun j h => by go_simp
  refine ⟨h1.1, h1.2.1, hb (by omega) h.bt, hb (by omega) h.b8, ⟨set_other h.bc.x0 (by decide), set_other h.bc.x1 (by decide), set_other h.bc.x2 (by decide), set_other h.bc.x3 (by decide), set_same h.bc.x4, hf _ h.bc.f0, hf _ h.bc.f1, hf _ h.bc.f2, hf _ h.bc.f3, hf _ h.bc.f4, h1.2.2, h.bc.no⟩, h.lo, ?_⟩
  refine LvsP.mono (LvsP.keep (LvsP.mono h.lv (S' := fun q => (((Old q ∨ w0.heap.size ≤ q) ∧ q ≠ rb ∧ q ≠ w0.heap.size + 1 ∧ True) ∧ ¬ M wx q) ∧ q < wx.heap.size) (fun q hq hl => ⟨hq, hl⟩)) (fun p hp => hc p hp.1.1.2.1)) (fun q hq _ => ⟨⟨hq.1.1.1, hq.1.1.2.1, hq.1.1.2.2.1, by have := hq.2; omega⟩, fun h' => hq.1.2 (hm _ h')⟩)
theorem Kl.start (hB : Bld pb Old Inv M) {d n f : Nat} {e : Int} {w0 wx : World} {rb len : Nat} {KO : Obj} (hi : Inv d n f e wx) (h0 : w0.heap.size + 1 < wx.heap.size) (hr : rb < wx.heap.size) (hex : ∀ (w : World) (j : Nat), j < len * 5 → ∃ u, (w.alloc KO).cell? ⟨w.heap.size, j, none⟩ = some u) (hfz : ∀ (w : World) (j : Nat), (w.alloc KO).frozen? ⟨w.heap.size, j, none⟩ = false) : Kl Old M w0 rb wx.heap.size len [] (wx.alloc KO) :=
  ⟨by simp, fun h => by have := (hB.lt hi (Bld.shrink hB hi ((Below.refl _ _).alloc (Nat.le_refl _) KO) _ h)).1; omega, fun h => by have := hB.old hi h; omega, h0, by omega, hfz wx, hex wx, fun i t h => by simp at h⟩

theorem Cs.kput (hB : Bld pb Old Inv M) {w0 wx : World} {d n f : Nat} {e k i : Int} {nm : ByteArray} {sl sk kv : Value} {ls : List (Int × List (Int × Int))} {rb kb cap len : Nat} {A : Option Addr} {ts : List Tm} (h : Cs Old Inv M w0 d n f e k i nm sl sk ls rb A cap kv (fun q => q ≠ kb) wx) (hl : Kl Old M w0 rb kb len ts wx) (o : Nat) (v0 v1 v2 v3 v4 : Value) : Cs Old Inv M w0 d n f e k i nm sl sk ls rb A cap kv (fun q => q ≠ kb) (set5 wx kb o v0 v1 v2 v3 v4) := by
  have hg := hl.gt
  have h1 := set5_kp hB h.kp h.inv (o := o) (by omega) hl.no hl.nm v0 v1 v2 v3 v4
  exact ⟨h1.1, h1.2, set5_bx hB h.inv hl.no hl.nm (by omega) h.bt, set5_bx hB h.inv hl.no hl.nm (by omega) h.b8, set5_bx hB h.inv hl.no hl.nm (fun e => hl.ne e.symm) h.bc, h.lo, set5_lv hB h.inv hl.no hl.nm (fun q hq => hq.2.2.2) h.lv⟩
theorem Out.ok {d n f : Nat} {e0 : Int} {x : Ou} {val : Value → Value} {w w' : World} {e : Ending} (h : Out Old Inv M d n f e0 x val w e w') (hn : n + x.n ≤ 4096) : Kp M w w' ∧ Inv (d + 1) (n + x.n) (f + x.f) (er e0 x.e) w' ∧ ∃ k i nm AL nl cl AK nk ck, e = .returned (val (.agg #[.int .i64 k, .int .i64 i, .string nm, .slice AL nl cl, .slice AK nk ck])) ∧ TmP w' (Rs Old M w w') x.t (.agg #[.int .i64 k, .int .i64 i, .string nm, .slice AL nl cl, .slice AK nk ck]) := by
  obtain ⟨hk, ⟨_, v, rfl, ht, hi⟩ | ⟨hb, _⟩⟩ := h
  · obtain ⟨k, i, nm, AL, nl, cl, AK, nk, ck, rfl, _⟩ := ht.open_
    exact ⟨hk, hi, k, i, nm, AL, nl, cl, AK, nk, ck, rfl, ht⟩
  · omega
theorem Out.bad {d n f : Nat} {e0 : Int} {x : Ou} {val : Value → Value} {w w' : World} {e : Ending} (h : Out Old Inv M d n f e0 x val w e w') (hn : ¬ n + x.n ≤ 4096) : Kp M w w' ∧ e = .panicked outCh := by
  obtain ⟨hk, ⟨hb, _⟩ | ⟨_, rfl⟩⟩ := h
  · omega
  · exact ⟨hk, rfl⟩

set_option maxRecDepth 100000 in
set_option maxHeartbeats 4000000 in
theorem copied_any (hB : Bld pb Old Inv M) {Q : Tm → Nat → Prop} {fn : FuncId} {cap : Array Value} {R : Tm → Nat → Option Ou} (hrep : Rep pb Old Inv M Q fn cap R) (hfn : ∀ (a : Array Value) (w : World), (callFunc fn a).run Tryd.prog w = .ok (.enter fn a) w) : ∀ (N : Nat) (t : Tm) (v : Value) (d n f : Nat) (e0 : Int) (w : World), szT t ≤ N → d + N ≤ 1000000000 → AllT Q t d → TmP w Old t v → Inv d n f e0 w → n ≤ 4096 →
    Calls Tryd.prog 35 #[.pointer (some ⟨pb, 0, none⟩), v, .int .i64 d, .func (.func fn) #[] cap] w (Out Old Inv M d n f e0 (cpT R t d) id w) := by
  intro N
  induction N with
  | zero => intro t v d n f e0 w h; have := szT_pos t; omega
  | succ N ih =>
  intro t v d n f e0 w hsz hdN hq htm hi hn
  obtain ⟨k, i, nm, ls, ks⟩ := t
  have htm0 := htm
  rw [TmP] at htm
  obtain ⟨AL, cl, AK, ck, rfl, hls, hkz, hks⟩ := htm
  have HK0 := Lib.hid (Kp.new hB (Kp.refl M w) hi ((Below.refl _ _).alloc (Nat.le_refl _) (.cells #[.int .i64 k, .int .i64 i, .string nm, .slice AL ls.length cl, .slice AK ks.length ck] 25)))
  have HX0 := Lib.hid (Bx.new hB hi (.int .i64 k) (.int .i64 i) (.string nm) (.slice AL ls.length cl) (.slice AK ks.length ck))
  have HK := Lib.hid (Kp.new hB HK0.out.1 HK0.out.2 ((Below.refl _ _).alloc (Nat.le_refl _) (.cells #[.int .i64 0, .int .i64 0, .string ⟨#[]⟩, .slice none 0 0, .slice none 0 0] 25)))
  have HX := Lib.hid (HX0.out.next (Kp.new hB (Kp.refl M _) HK0.out.2 ((Below.refl _ _).alloc (Nat.le_refl _) (.cells #[.int .i64 0, .int .i64 0, .string ⟨#[]⟩, .slice none 0 0, .slice none 0 0] 25))).1)
  have HY := Lib.hid (Bx.new hB HK0.out.2 (.int .i64 0) (.int .i64 0) (.string ⟨#[]⟩) (.slice none 0 0) (.slice none 0 0))
  simp only [World.size_alloc] at HY
  have HB := Lib.hid hB
  have HR := Lib.hid hrep
  have IH := Lib.hid ih
  have HQ := Lib.hid hq
  have HT := Lib.hid htm0
  have HO := Lib.hid (show ∀ q, Old q → ¬ M w q from fun q hq hm => (hB.lt hi hm).2 hq)
  generalize hr : R (.mk k i nm ls ks) d = r
  have HRR := Lib.hid hr
  have hd0 : d ≤ 1000000000 := by omega
  have HD := Lib.hid (And.intro hsz hdN)
  generalize ho : cpT R (.mk k i nm ls ks) d = o
  have HOU := Lib.hid ho
  clear hi hB HK0 HX0 hrep ih hq htm0 hls hks hr hsz hdN ho
  go_enter Tryd.func35, Tryd.ntmps35
  go_wp2_with fail
  refine (HR.out k i nm AL cl ls AK ck ks d n f e0 _ HQ.out hd0 (HK.out.1.old HO.out HT.out) HK.out.2 hn).mono ?_
  rw [HRR.out]
  cases r with
  | some x =>
    have HE := Lib.hid (show o = x from by rw [← HOU.out]; exact cpT_some HRR.out)
    rintro e w1 ⟨hk1, ⟨hn1, v1, rfl, ht1, hi1⟩ | ⟨hn1, rfl⟩⟩
    · have HT1 := Lib.hid ht1
      obtain ⟨k', i', nm', AL', nl', cl', AK', nk', ck', rfl, _⟩ := ht1.open_
      have HK1 := Lib.hid (And.intro (HK.out.1.trans hk1) hi1)
      have HY1 := Lib.hid (HY.out.next hk1)
      have h2 := Bx.put HB.out HY1.out HK1.out (by omega) (.int .i64 k') (.int .i64 i') (.string nm') (.slice AL' nl' cl') (.slice AK' nk' ck')
      have hlt := HY1.out.lt
      have hne : ¬ w.heap.size + 1 = w1.heap.size := by omega
      have ht2 := Bx.keepR HB.out HY1.out HK1.out.2 (by simp) HT1.out (.int .i64 k') (.int .i64 i') (.string nm') (.slice AL' nl' cl') (.slice AK' nk' ck')
      have h3 := Kp.new HB.out h2.1.1 h2.1.2 ((Below.refl _ _).alloc (Nat.le_refl _) (.cells #[.int .i64 k', .int .i64 i', .string nm', .slice AL' nl' cl', .slice AK' nk' ck'] 25))
      have hk3 := Kp.new HB.out (Kp.refl M _) h2.1.2 ((Below.refl _ _).alloc (Nat.le_refl _) (.cells #[.int .i64 k', .int .i64 i', .string nm', .slice AL' nl' cl', .slice AK' nk' ck'] 25))
      have hx3 := h2.2.next hk3.1
      have ht3 := Rs.next ht2 hk3.1
      have H3 := Lib.hid (And.intro h3 (And.intro hx3 ht3))
      clear ht1 hk1 hi1 h2 ht2 h3 hk3 hx3 ht3
      obtain ⟨y0, y1, y2, y3, y4, f0, f1, f2, f3, f4, _, _⟩ := HY1.out
      go_wp2_with fail
      generalize ((((((w1.setCell ⟨w.heap.size + 1, 0, none⟩ (.int .i64 k')).setCell ⟨w.heap.size + 1, 1, none⟩ (.int .i64 i')).setCell ⟨w.heap.size + 1, 2, none⟩ (.string nm')).setCell ⟨w.heap.size + 1, 3, none⟩ (.slice AL' nl' cl')).setCell ⟨w.heap.size + 1, 4, none⟩ (.slice AK' nk' ck')).alloc (.cells #[.int .i64 k', .int .i64 i', .string nm', .slice AL' nl' cl', .slice AK' nk' ck'] 25)) = w4 at H3 ⊢
      clear y0 y1 y2 y3 y4 f0 f1 f2 f3 f4
      obtain ⟨y0, y1, y2, y3, y4, _, _, _, _, _, _, _⟩ := H3.out.2.1
      exact bodyPost_ret (v := .agg #[.int .i64 k', .int .i64 i', .string nm', .slice AL' nl' cl', .slice AK' nk' ck']) (by simp [results, Tryd.results35, go_sem, y0, y1, y2, y3, y4]) rfl (by rw [HE.out]; exact ⟨H3.out.1.1, .inl ⟨hn1, _, rfl, Rs.less H3.out.2.2 (by simp; omega), H3.out.1.2⟩⟩)
    · have HK1 := Lib.hid (HK.out.1.trans hk1)
      clear hk1
      go_wp2_with fail
      exact ⟨rfl, by rw [HE.out]; exact ⟨HK1.out, .inr ⟨hn1, rfl⟩⟩⟩
  | none =>
    have HE := Lib.hid (show o = ⟨1 + (cpL R ks k d 0).n, (cpL R ks k d 0).f, (cpL R ks k d 0).e, .mk k i nm ls (cpL R ks k d 0).ts⟩ from by rw [← HOU.out]; exact cpT_none HRR.out)
    rintro e w1 ⟨rfl, hk1, hi1⟩
    have HK2 := Lib.hid (Kp.new HB.out (HK.out.1.trans hk1) hi1 ((Below.refl _ _).alloc (Nat.le_refl _) (.cells #[.int .i64 0, .int .i64 0, .string ⟨#[]⟩, .slice none 0 0, .slice none 0 0] 25)))
    have hk2 := hk1.trans (Kp.new HB.out (Kp.refl M _) hi1 ((Below.refl _ _).alloc (Nat.le_refl _) (.cells #[.int .i64 0, .int .i64 0, .string ⟨#[]⟩, .slice none 0 0, .slice none 0 0] 25))).1
    have HX2 := Lib.hid (HX.out.next hk2)
    have HY2 := Lib.hid (HY.out.next hk2)
    clear HK HX HY hk1 hi1 hk2
    unfold zeroV
    go_wp2_with fail
    by_cases hc : n + 1 ≤ 4096
    · refine (count_ok pb n _ (HB.out.n_ HK2.out.2) (HB.out.fz HK2.out.2).1 hc).mono ?_
      rintro e w3 ⟨rfl, hw3⟩
      have HK3 : Hid (Kp M w w3 ∧ Inv (d + 1) (n + 1) f e0 w3) := Lib.hid (by rw [hw3]; exact HK2.out.1.setN HB.out HK2.out.2)
      have HX3 := Lib.hid (show Bx M Old w.heap.size (.int .i64 k) (.int .i64 i) (.string nm) (.slice AL ls.length cl) (.slice AK ks.length ck) w3 by rw [hw3]; exact HX2.out.next ((Kp.refl _ _).setN HB.out HK2.out.2).1)
      have HY3 := Lib.hid (show Bx M Old (w.heap.size + 1) (.int .i64 0) (.int .i64 0) (.string ⟨#[]⟩) (.slice none 0 0) (.slice none 0 0) w3 by rw [hw3]; exact HY2.out.next ((Kp.refl _ _).setN HB.out HK2.out.2).1)
      clear hw3 HK2 HX2 HY2
      have HL := Lib.hid (show ∀ W, Kp M w3 W → LvsP W Old AL ls from fun W hW => LvsP.old (HK3.out.1.trans hW) HO.out (by
        have h := HT.out
        rw [TmP] at h
        obtain ⟨AL', cl', AK', ck', hv, hl, _⟩ := h
        simp only [Value.agg.injEq, Array.mk.injEq, List.cons.injEq, Value.slice.injEq, and_true, true_and] at hv
        obtain ⟨⟨rfl, rfl⟩, _⟩ := hv
        exact hl))
      have HS := Lib.hid (show ∀ W, Kp M w3 W → (W.cell? ⟨w.heap.size, 0, none⟩ = some (.int .i64 k) ∧ W.cell? ⟨w.heap.size, 1, none⟩ = some (.int .i64 i) ∧ W.cell? ⟨w.heap.size, 2, none⟩ = some (.string nm) ∧ W.cell? ⟨w.heap.size, 3, none⟩ = some (.slice AL ls.length cl)) from fun W hW => ⟨(HX3.out.next hW).x0, (HX3.out.next hW).x1, (HX3.out.next hW).x2, (HX3.out.next hW).x3⟩)
      have HC := Lib.hid (Kp.new HB.out (Kp.refl M w3) HK3.out.2 (Below.drew (Below.refl w3.heap.size w3)))
      have HCA := Lib.hid (Kp.new HB.out HC.out.1 HC.out.2 ((Below.refl _ w3.drew).alloc (Nat.le_refl _) (.cells #[.int .i64 0, .int .i64 0, .string ⟨#[]⟩, .slice none 0 0, .slice none 0 0] 25)))
      have HBA := Lib.hid (show Bx M Old w3.heap.size (.int .i64 0) (.int .i64 0) (.string ⟨#[]⟩) (.slice none 0 0) (.slice none 0 0) (w3.drew.alloc (.cells #[.int .i64 0, .int .i64 0, .string ⟨#[]⟩, .slice none 0 0, .slice none 0 0] 25)) from Bx.new HB.out HC.out.2 (.int .i64 0) (.int .i64 0) (.string ⟨#[]⟩) (.slice none 0 0) (.slice none 0 0))
      have HMD := Lib.hid (Bld.shrink HB.out HK3.out.2 (Below.drew (Below.refl w3.heap.size w3)))
      have HMA := Lib.hid (fun k h => HMD.out k (Bld.shrink HB.out HC.out.2 ((Below.refl _ w3.drew).alloc (Nat.le_refl _) (.cells #[.int .i64 0, .int .i64 0, .string ⟨#[]⟩, .slice none 0 0, .slice none 0 0] 25)) k h))
      have hltb : w.heap.size + 1 < w3.heap.size := HY3.out.lt
      go_upto_region 5 with fail
      go_cut [11] from 27 to 36 (fun s11 wx => ∃ (rb : Nat) (A5 : Option Addr) (cap5 : Nat), s11 = .pointer (some ⟨rb, 0, none⟩) ∧ Cs Old Inv M w d (n + 1) f e0 k i nm (.slice AL ls.length cl) (.slice AK ks.length ck) ls rb A5 cap5 (.slice none 0 0) (fun _ => True) wx)
      case first =>
        go_region_held3 (fun w' => w'.cell? ⟨w.heap.size, 0, none⟩ = some (.int .i64 k) ∧ w'.cell? ⟨w.heap.size, 1, none⟩ = some (.int .i64 i) ∧ w'.cell? ⟨w.heap.size, 2, none⟩ = some (.string nm) ∧ w'.cell? ⟨w.heap.size, 3, none⟩ = some (.slice AL ls.length cl))
          (first | exact HS.out _ HC.out.1 | exact HS.out _ (Kp.new HB.out HC.out.1 HC.out.2 ((Below.refl _ _).alloc (Nat.le_refl _) _)).1 | exact HS.out _ (Bx.put HB.out HBA.out HC.out (Nat.le_refl _) (.int .i64 k) (.int .i64 i) (.string nm) (.slice A5 ls.length cap5) (.slice none 0 0)).1.1)
          (first
            | (go_at_call 62; refine (levels_any AL cl ls Old _ (HL.out _ HC.out.1)).mono ?_; rintro e w7 ⟨A5, cap5, rfl, hlv, hb7⟩; have HLV := Lib.hid hlv; have HM := Lib.hid (fun k h => HMD.out k (Bld.shrink HB.out HC.out.2 hb7 k h)); have HC := Lib.hid (Kp.new HB.out HC.out.1 HC.out.2 hb7); clear hlv hb7)
            | (go_at_call 62; refine (levels_any AL cl ls Old _ (HL.out _ HCA.out.1)).mono ?_; rintro e w7 ⟨A5, cap5, rfl, hlv, hb7⟩; have HLV := Lib.hid hlv; have HM := Lib.hid (fun k h => HMA.out k (Bld.shrink HB.out HCA.out.2 hb7 k h)); have HC := Lib.hid (Kp.new HB.out HCA.out.1 HCA.out.2 hb7); have HBA := Lib.hid (HBA.out.next (Kp.new HB.out (Kp.refl M _) HCA.out.2 hb7).1); clear hlv hb7; obtain ⟨y0, y1, y2, y3, y4, f0, f1, f2, f3, f4, _, _⟩ := HBA.out))
        all_goals
          go_wp2_with fail
          go_meet
        · have hA := Kp.new HB.out (Kp.refl M _) HC.out.2 ((Below.refl _ _).alloc (Nat.le_refl _) (.cells #[.int .i64 k, .int .i64 i, .string nm, .slice A5 ls.length cap5, .slice none 0 0] 25))
          have hs7 := HC.out.1.size
          exact ⟨_, A5, cap5, rfl, HK3.out.1.trans (HC.out.1.trans hA.1), hA.2, HX3.out.next (HC.out.1.trans hA.1), HY3.out.next (HC.out.1.trans hA.1), Bx.new HB.out HC.out.2 (.int .i64 k) (.int .i64 i) (.string nm) (.slice A5 ls.length cap5) (.slice none 0 0), by omega, LvsP.next hA.1 (lv_of HB.out HC.out.2 HK3.out.2 HM.out (by omega) (Nat.le_refl _) HLV.out (fun q hq h => ⟨by omega, fun e => hq.elim (fun h => by have : w3.heap.size ≤ q := h; omega) (fun h => HY3.out.no (e ▸ h))⟩))⟩
        · have hs7 := HC.out.1.size
          have hA := Bx.put HB.out HBA.out HC.out (Nat.le_refl _) (.int .i64 k) (.int .i64 i) (.string nm) (.slice A5 ls.length cap5) (.slice none 0 0)
          have hol : ∀ q, Old q → q < w3.heap.size := fun q => HB.out.old HK3.out.2
          exact ⟨_, A5, cap5, rfl, HK3.out.1.trans hA.1.1, hA.1.2, HX3.out.next hA.1.1, HY3.out.next hA.1.1, hA.2, hltb, Bx.keepL HB.out HBA.out HC.out.2 (fun q hq => hq.2.1) (lv_of HB.out HC.out.2 HK3.out.2 HM.out (s := w3.heap.size + 1) (by omega) (by omega) (by simpa using HLV.out) (fun q h _ => ⟨h.elim (fun h => by omega) (fun h => by have := hol q h; omega), fun e => h.elim (fun h => by omega) (fun h => HY3.out.no (e ▸ h))⟩)) (.int .i64 k) (.int .i64 i) (.string nm) (.slice A5 ls.length cap5) (.slice none 0 0)⟩
      case rest =>
        obtain ⟨rb, A5, cap5, rfl, hcs⟩ := hcut
        have HCS := Lib.hid hcs
        clear HL HS HC HCA HBA HMD HMA HK3 HX3 HY3 hltb hcs
        obtain ⟨x0, x1, x2, x3, x4, _, _, _, _, _, _, _⟩ := HCS.out.bt
        obtain ⟨y0, y1, y2, y3, y4, f0, f1, f2, f3, f4, _, _⟩ := HCS.out.b8
        obtain ⟨z0, z1, z2, z3, z4, q0, q1, q2, q3, q4, _, _⟩ := HCS.out.bc
        have hlo := HCS.out.lo
        rcases Nat.eq_zero_or_pos ks.length with hl0 | hlp
        · have hkn : ks = [] := List.length_eq_zero_iff.1 hl0
          subst hkn
          clear hl0
          go_wp2_with fail
          have h9 := set5_kp HB.out HCS.out.kp HCS.out.inv (o := 0) (by omega) HCS.out.b8.no HCS.out.b8.nm (.int .i64 k) (.int .i64 i) (.string nm) (.slice A5 ls.length cap5) (.slice none 0 0)
          have h8 := set5_lv HB.out HCS.out.inv (o := 0) HCS.out.b8.no HCS.out.b8.nm (v0 := .int .i64 k) (v1 := .int .i64 i) (v2 := .string nm) (v3 := .slice A5 ls.length cap5) (v4 := .slice none 0 0) (fun q hq => hq.2.2.1) HCS.out.lv
          have h7 := set5_at (w := wc) (b := w.heap.size + 1) (o := 0) (v0 := .int .i64 k) (v1 := .int .i64 i) (v2 := .string nm) (v3 := .slice A5 ls.length cap5) (v4 := .slice none 0 0) (fun q hq => by
            have : q = 0 ∨ q = 1 ∨ q = 2 ∨ q = 3 ∨ q = 4 := by omega
            rcases this with rfl | rfl | rfl | rfl | rfl
            · exact ⟨_, y0⟩
            · exact ⟨_, y1⟩
            · exact ⟨_, y2⟩
            · exact ⟨_, y3⟩
            · exact ⟨_, y4⟩)
          unfold set5 at h7 h8 h9
          simp only [Nat.zero_add] at h7 h8 h9
          generalize (((((wc.setCell ⟨w.heap.size + 1, 0, none⟩ (.int .i64 k)).setCell ⟨w.heap.size + 1, 1, none⟩ (.int .i64 i)).setCell ⟨w.heap.size + 1, 2, none⟩ (.string nm)).setCell ⟨w.heap.size + 1, 3, none⟩ (.slice A5 ls.length cap5)).setCell ⟨w.heap.size + 1, 4, none⟩ (.slice none 0 0)) = w9 at h7 h8 h9 ⊢
          clear y0 y1 y2 y3 y4 f0 f1 f2 f3 f4
          obtain ⟨y0, y1, y2, y3, y4⟩ := h7
          have htm : TmP w9 (Rs Old M w w9) (.mk k i nm ls []) (.agg #[.int .i64 k, .int .i64 i, .string nm, .slice A5 ls.length cap5, .slice none 0 0]) := by
            rw [TmP]
            exact ⟨A5, cap5, none, 0, rfl, h8.mono (fun q hq _ => ⟨hq.1.1, hq.2⟩), by simp, fun h => by simp at h⟩
          have hox : o = ⟨1, 0, 0, .mk k i nm ls []⟩ := by rw [HE.out, cpL]; rfl
          exact bodyPost_ret (v := .agg #[.int .i64 k, .int .i64 i, .string nm, .slice A5 ls.length cap5, .slice none 0 0]) (by simp [results, Tryd.results35, go_sem, y0, y1, y2, y3, y4]) rfl (by rw [hox]; exact ⟨h9.1, .inl ⟨hc, _, rfl, htm, by rw [er_zero_right]; exact h9.2⟩⟩)
        · have hz0 : ((ks.length : Int) == 0) = false := by rw [beq_eq_false_iff_ne]; omega
          obtain ⟨KO, hmk, hkc, hkf⟩ := make_terms ks.length hkz
          have HKC := Lib.hid hkc
          have HKF := Lib.hid hkf
          clear hkc hkf
          have hrl := HCS.out.bc.lt
          have z4' : ∀ o, (wc.alloc o).cell? ⟨rb, 4, none⟩ = some (.slice none 0 0) := fun o => (World.cell?_alloc_lt wc o ⟨rb, 4, none⟩ hrl).trans z4
          have q4' : (wc.alloc KO).frozen? ⟨rb, 4, none⟩ = false := (World.frozen?_of_block (w := wc) (a := ⟨rb, 4, none⟩) (Below.heap_alloc wc KO rb hrl)).trans q4
          have hsz4 : (wc.setCell ⟨rb, 4, none⟩ (.slice (some ⟨wc.heap.size, 0, none⟩) ks.length ks.length)).heap.size = wc.heap.size := by simp [World.setCell]
          have hp4 := HCS.out.put4 HB.out (.slice (some ⟨wc.heap.size, 0, none⟩) ks.length ks.length)
          have hkl := Kl.start (w0 := w) (rb := rb) HB.out hp4.inv (by rw [hsz4]; omega) (by rw [hsz4]; omega) HKC.out HKF.out
          have ha4 := Kp.new HB.out (Kp.refl M _) hp4.inv ((Below.refl _ _).alloc (Nat.le_refl _) KO)
          rw [hsz4] at hkl
          have HCS2 := Lib.hid (And.intro (hp4.next ha4.1 ha4.2) hkl)
          clear hp4 hkl ha4 hsz4
          go_upto_region 9 with fail
          obtain ⟨kb, hkb⟩ : ∃ kb, kb = wc.heap.size := ⟨_, rfl⟩
          rw [← hkb] at HCS2 ⊢
          generalize (wc.setCell ⟨rb, 4, none⟩ (.slice (some ⟨kb, 0, none⟩) ks.length ks.length)).alloc KO = wd at HCS2 ⊢
          clear hkb x0 x1 x2 x3 x4 y0 y1 y2 y3 y4 z0 z1 z2 z3 z4 f0 f1 f2 f3 f4 q0 q1 q2 q3 q4 z4' q4' hmk HKC HKF HCS hrl
          obtain ⟨x0, x1, x2, x3, x4, _, _, _, _, _, _, _⟩ := HCS2.out.1.bt
          go_wp2_with fail
          go_loopw [50] (fun s50 wr => ∃ (j : Nat) (acc : OuL), j ≤ ks.length ∧ s50 = .int .i64 (j : Int) ∧ Hid (acc.ts.length = j) ∧ Hid (cpL R ks k d 0 = comb acc (cpL R (ks.drop j) k d j)) ∧ n + 1 + acc.n ≤ 4096 ∧ Cs Old Inv M w d (n + 1 + acc.n) (f + acc.f) (er e0 acc.e) k i nm (.slice AL ls.length cl) (.slice AK ks.length ck) ls rb A5 cap5 (.slice (some ⟨kb, 0, none⟩) ks.length ks.length) (fun q => q ≠ kb) wr ∧ Kl Old M w rb kb ks.length acc.ts wr) (fun s50 _ => ks.length - (intOf s50).toNat)
          case atStart => exact ⟨0, ⟨0, 0, 0, []⟩, Nat.zero_le _, rfl, Lib.hid rfl, Lib.hid (by rw [comb_nil]; rfl), hc, by rw [er_zero_right]; exact HCS2.out.1, HCS2.out.2⟩
          case round =>
            obtain ⟨j, acc, hj, rfl, hal, hcm, hnn, hcs, hkl⟩ := hrel
            have HCS := Lib.hid hcs
            have HKL := Lib.hid hkl
            clear HCS2 x0 x1 x2 x3 x4 hcs hkl
            obtain ⟨x0, x1, x2, x3, x4, _, _, _, _, _, _, _⟩ := HCS.out.bt
            by_cases hjl : j < ks.length
            · have htp := HT.out
              rw [TmP] at htp
              obtain ⟨AL', cl', AK', ck', hve, _, _, hks⟩ := htp
              simp only [Value.agg.injEq, Array.mk.injEq, List.cons.injEq, Value.slice.injEq, and_true, true_and] at hve
              obtain ⟨⟨rfl, rfl⟩, rfl, rfl⟩ := hve
              obtain ⟨sb, so, rfl, hsb, hkc⟩ := hks hlp
              obtain ⟨d0, d1, d2, d3, d4, p0, p1, p2, p3, p4, hq⟩ := hkc.at_ (List.getElem?_eq_getElem hjl)
              obtain ⟨qk, qi, qn, qAL, qnl, qcl, qAK, qnk, qck, hqe, _⟩ := hq.open_
              simp only [Value.agg.injEq, Array.mk.injEq, List.cons.injEq, and_true] at hqe
              obtain ⟨rfl, rfl, rfl, rfl, rfl⟩ := hqe
              have hkp := HCS.out.kp
              replace p0 := hkp.cell' p0 (HO.out _ hsb)
              replace p1 := hkp.cell' p1 (HO.out _ hsb)
              replace p2 := hkp.cell' p2 (HO.out _ hsb)
              replace p3 := hkp.cell' p3 (HO.out _ hsb)
              replace p4 := hkp.cell' p4 (HO.out _ hsb)
              have HTQ := Lib.hid (hkp.old HO.out hq)
              have HAQ := Lib.hid (HQ.out.kid hjl)
              have HCM := Lib.hid (comb_drop acc R k d hjl)
              have hst := szL_mem (List.getElem_mem hjl)
              have hszk : szT (.mk k i nm ls ks) = 1 + szL ks := by rw [szT]
              have hszq : szT ks[j] ≤ N := by have := HD.out.1; omega
              have HBD := Lib.hid (show decide (binI k (j : Int) = 1) = decide (bbN k j = 1) by rw [binI_bind k j]; unfold bbN; split <;> simp)
              have hb1 : bbN k j = 0 ∨ bbN k j = 1 := by unfold bbN; split <;> simp
              have hdN : d + bbN k j + N ≤ 1000000000 := by have := HD.out.2; omega
              have x0' : ∀ o, (wr.alloc o).cell? ⟨w.heap.size, 0, none⟩ = some (.int .i64 k) := fun o => (World.cell?_alloc_lt wr o ⟨w.heap.size, 0, none⟩ HCS.out.bt.lt).trans x0
              clear hkc hks hq hkp hst hszk
              generalize hgb : bbN k j = bb at *
              generalize hgq : ks[j] = q at *
              have HGB := Lib.hid hgb
              have HGQ := Lib.hid hgq
              clear hgb hgq
              rcases hb1 with hb1 | hb1
              case' inl =>
                have hdb : decide (bb = 1) = false := by rw [hb1]; rfl
                rw [hdb] at HBD
                have hdd : (d : Int) = ((d + bb : Nat) : Int) := by omega
                obtain ⟨v5, hv5⟩ : ∃ v5 : Value, v5 = .int .i64 ((d : Int)) := ⟨_, rfl⟩
                have HV5 := Lib.hid hv5
                have HI := Lib.hid (show ∀ W n1 f1 e1, TmP W Old q (.agg #[.int .i64 qk, .int .i64 qi, .string qn, .slice qAL qnl qcl, .slice qAK qnk qck]) → Inv (d + 1) n1 f1 e1 W → n1 ≤ 4096 → Calls Tryd.prog 35 #[.pointer (some ⟨pb, 0, none⟩), .agg #[.int .i64 qk, .int .i64 qi, .string qn, .slice qAL qnl qcl, .slice qAK qnk qck], v5, .func (.func fn) #[] cap] W (Out Old Inv M (d + bb) n1 f1 e1 (cpT R q (d + bb)) id W) from fun W n1 f1 e1 h1 h2 h3 => by
                  rw [hv5, hdd]
                  exact IH.out q _ (d + bb) n1 f1 e1 W hszq hdN HAQ.out h1 (HB.out.mono h2 (by omega)) h3)
                have hbb : bb ≤ 1 := by omega
                clear hb1 hdb hdd hv5
                go_upto_region 15 with (go_at_call 63; refine (bbelow_any k j _).mono ?_; rw [HBD.out]; rintro e w9 ⟨rfl, rfl⟩)
              case' inr =>
                have hdb : decide (bb = 1) = true := by rw [hb1]; rfl
                rw [hdb] at HBD
                have hdd : (d : Int) + 1 = ((d + bb : Nat) : Int) := by omega
                obtain ⟨v5, hv5⟩ : ∃ v5 : Value, v5 = .int .i64 ((d : Int) + 1) := ⟨_, rfl⟩
                have HV5 := Lib.hid hv5
                have HI := Lib.hid (show ∀ W n1 f1 e1, TmP W Old q (.agg #[.int .i64 qk, .int .i64 qi, .string qn, .slice qAL qnl qcl, .slice qAK qnk qck]) → Inv (d + 1) n1 f1 e1 W → n1 ≤ 4096 → Calls Tryd.prog 35 #[.pointer (some ⟨pb, 0, none⟩), .agg #[.int .i64 qk, .int .i64 qi, .string qn, .slice qAL qnl qcl, .slice qAK qnk qck], v5, .func (.func fn) #[] cap] W (Out Old Inv M (d + bb) n1 f1 e1 (cpT R q (d + bb)) id W) from fun W n1 f1 e1 h1 h2 h3 => by
                  rw [hv5, hdd]
                  exact IH.out q _ (d + bb) n1 f1 e1 W hszq hdN HAQ.out h1 (HB.out.mono h2 (by omega)) h3)
                have hbb : bb ≤ 1 := by omega
                clear hb1 hdb hdd hv5
                go_upto_region 15 with (go_at_call 63; refine (bbelow_any k j _).mono ?_; rw [HBD.out]; rintro e w9 ⟨rfl, rfl⟩)
              all_goals
                have ha := Kp.new HB.out (Kp.refl M wr) HCS.out.inv ((Below.refl _ _).alloc (Nat.le_refl _) (.cells #[.int .i64 qk, .int .i64 qi, .string qn, .slice qAL qnl qcl, .slice qAK qnk qck] 25))
                have hx := Bx.new HB.out HCS.out.inv (.int .i64 qk) (.int .i64 qi) (.string qn) (.slice qAL qnl qcl) (.slice qAK qnk qck)
                have hd := Kp.new HB.out (Kp.refl M (wr.alloc (.cells #[.int .i64 qk, .int .i64 qi, .string qn, .slice qAL qnl qcl, .slice qAK qnk qck] 25))) ha.2 (Below.drew (Below.refl _ _))
                have HCZ := Lib.hid (HCS.out.next (ha.1.trans hd.1) hd.2)
                have HKZ := Lib.hid (HKL.out.next (ha.1.trans hd.1))
                have HXZ := Lib.hid (hx.next hd.1)
                have HTZ := Lib.hid ((ha.1.trans hd.1).old (fun q hq hm => (HB.out.lt HCS.out.inv hm).2 hq) HTQ.out)
                have hjb : (j : Int) < (ks.length : Int) := by omega
                have hj5 : acc.ts.length = j := hal.out
                have HJ5 := Lib.hid hj5
                have hkbl := HKL.out.lt
                clear ha hx hd hj5 HTQ x0 x1 x2 x3 x4 x0' p0 p1 p2 p3 p4
                have HNN := Lib.hid hnn
                by_cases hpan : n + 1 + acc.n + (cpT R q (d + bb)).n ≤ 4096
                · have h5 := HV5.out
                  subst h5
                  have HS := Lib.hid (And.intro HCZ.out.bc.x4 (And.intro HXZ.out.x0 (And.intro HXZ.out.x1 (And.intro HXZ.out.x2 (And.intro HXZ.out.x3 HXZ.out.x4)))))
                  have HAF := Lib.hid (show ∀ e w8, Out Old Inv M (d + bb) (n + 1 + acc.n) (f + acc.f) (er e0 acc.e) (cpT R q (d + bb)) id ((wr.alloc (.cells #[.int .i64 qk, .int .i64 qi, .string qn, .slice qAL qnl qcl, .slice qAK qnk qck] 25)).drew) e w8 → ∃ k8 i8 n8 AL8 nl8 cl8 AK8 nk8 ck8, e = .returned (.agg #[.int .i64 k8, .int .i64 i8, .string n8, .slice AL8 nl8 cl8, .slice AK8 nk8 ck8]) ∧ Hid (Cs Old Inv M w d (n + 1 + acc.n + (cpT R q (d + bb)).n) (f + acc.f + (cpT R q (d + bb)).f) (er (er e0 acc.e) (cpT R q (d + bb)).e) k i nm (.slice AL ls.length cl) (.slice (some ⟨sb, so, none⟩) ks.length ck) ls rb A5 cap5 (.slice (some ⟨kb, 0, none⟩) ks.length ks.length) (fun q => q ≠ kb) w8) ∧ Hid (Kl Old M w rb kb ks.length acc.ts w8) ∧ Hid (TmP w8 (Rs Old M ((wr.alloc (.cells #[.int .i64 qk, .int .i64 qi, .string qn, .slice qAL qnl qcl, .slice qAK qnk qck] 25)).drew) w8) (cpT R q (d + bb)).t (.agg #[.int .i64 k8, .int .i64 i8, .string n8, .slice AL8 nl8 cl8, .slice AK8 nk8 ck8])) ∧ Hid (w8.cell? ⟨rb, 4, none⟩ = some (.slice (some ⟨kb, 0, none⟩) ks.length ks.length) ∧ w8.cell? ⟨wr.heap.size, 0, none⟩ = some (.int .i64 qk) ∧ w8.cell? ⟨wr.heap.size, 1, none⟩ = some (.int .i64 qi) ∧ w8.cell? ⟨wr.heap.size, 2, none⟩ = some (.string qn) ∧ w8.cell? ⟨wr.heap.size, 3, none⟩ = some (.slice qAL qnl qcl) ∧ w8.cell? ⟨wr.heap.size, 4, none⟩ = some (.slice qAK qnk qck)) ∧ Hid ((((((w8.setCell ⟨kb, j * 5, none⟩ (.int .i64 k8)).setCell ⟨kb, j * 5 + 1, none⟩ (.int .i64 i8)).setCell ⟨kb, j * 5 + 2, none⟩ (.string n8)).setCell ⟨kb, j * 5 + 3, none⟩ (.slice AL8 nl8 cl8)).setCell ⟨kb, j * 5 + 4, none⟩ (.slice AK8 nk8 ck8)).cell? ⟨rb, 4, none⟩ = some (.slice (some ⟨kb, 0, none⟩) ks.length ks.length) ∧ (((((w8.setCell ⟨kb, j * 5, none⟩ (.int .i64 k8)).setCell ⟨kb, j * 5 + 1, none⟩ (.int .i64 i8)).setCell ⟨kb, j * 5 + 2, none⟩ (.string n8)).setCell ⟨kb, j * 5 + 3, none⟩ (.slice AL8 nl8 cl8)).setCell ⟨kb, j * 5 + 4, none⟩ (.slice AK8 nk8 ck8)).cell? ⟨wr.heap.size, 0, none⟩ = some (.int .i64 qk) ∧ (((((w8.setCell ⟨kb, j * 5, none⟩ (.int .i64 k8)).setCell ⟨kb, j * 5 + 1, none⟩ (.int .i64 i8)).setCell ⟨kb, j * 5 + 2, none⟩ (.string n8)).setCell ⟨kb, j * 5 + 3, none⟩ (.slice AL8 nl8 cl8)).setCell ⟨kb, j * 5 + 4, none⟩ (.slice AK8 nk8 ck8)).cell? ⟨wr.heap.size, 1, none⟩ = some (.int .i64 qi) ∧ (((((w8.setCell ⟨kb, j * 5, none⟩ (.int .i64 k8)).setCell ⟨kb, j * 5 + 1, none⟩ (.int .i64 i8)).setCell ⟨kb, j * 5 + 2, none⟩ (.string n8)).setCell ⟨kb, j * 5 + 3, none⟩ (.slice AL8 nl8 cl8)).setCell ⟨kb, j * 5 + 4, none⟩ (.slice AK8 nk8 ck8)).cell? ⟨wr.heap.size, 2, none⟩ = some (.string qn) ∧ (((((w8.setCell ⟨kb, j * 5, none⟩ (.int .i64 k8)).setCell ⟨kb, j * 5 + 1, none⟩ (.int .i64 i8)).setCell ⟨kb, j * 5 + 2, none⟩ (.string n8)).setCell ⟨kb, j * 5 + 3, none⟩ (.slice AL8 nl8 cl8)).setCell ⟨kb, j * 5 + 4, none⟩ (.slice AK8 nk8 ck8)).cell? ⟨wr.heap.size, 3, none⟩ = some (.slice qAL qnl qcl) ∧ (((((w8.setCell ⟨kb, j * 5, none⟩ (.int .i64 k8)).setCell ⟨kb, j * 5 + 1, none⟩ (.int .i64 i8)).setCell ⟨kb, j * 5 + 2, none⟩ (.string n8)).setCell ⟨kb, j * 5 + 3, none⟩ (.slice AL8 nl8 cl8)).setCell ⟨kb, j * 5 + 4, none⟩ (.slice AK8 nk8 ck8)).cell? ⟨wr.heap.size, 4, none⟩ = some (.slice qAK qnk qck)) ∧ ((∃ u, w8.cell? ⟨kb, j * 5, none⟩ = some u) ∧ (∃ u, w8.cell? ⟨kb, j * 5 + 1, none⟩ = some u) ∧ (∃ u, w8.cell? ⟨kb, j * 5 + 2, none⟩ = some u) ∧ (∃ u, w8.cell? ⟨kb, j * 5 + 3, none⟩ = some u) ∧ (∃ u, w8.cell? ⟨kb, j * 5 + 4, none⟩ = some u)) ∧ (w8.frozen? ⟨kb, j * 5, none⟩ = false ∧ w8.frozen? ⟨kb, j * 5 + 1, none⟩ = false ∧ w8.frozen? ⟨kb, j * 5 + 2, none⟩ = false ∧ w8.frozen? ⟨kb, j * 5 + 3, none⟩ = false ∧ w8.frozen? ⟨kb, j * 5 + 4, none⟩ = false) from fun e w8 h8 => by
                    obtain ⟨hk8, hi8, k8, i8, n8, AL8, nl8, cl8, AK8, nk8, ck8, rfl, ht8⟩ := h8.ok hpan
                    have hc8 := HCZ.out.next hk8 (HB.out.mono hi8 (by omega))
                    have hl8 := HKZ.out.next hk8
                    have hx8 := HXZ.out.next hk8
                    have hnr : rb ≠ kb := fun e => hl8.ne e.symm
                    have hnw : wr.heap.size ≠ kb := by omega
                    have hfar : ∀ p : Addr, p.block ≠ kb → (((((w8.setCell ⟨kb, j * 5, none⟩ (.int .i64 k8)).setCell ⟨kb, j * 5 + 1, none⟩ (.int .i64 i8)).setCell ⟨kb, j * 5 + 2, none⟩ (.string n8)).setCell ⟨kb, j * 5 + 3, none⟩ (.slice AL8 nl8 cl8)).setCell ⟨kb, j * 5 + 4, none⟩ (.slice AK8 nk8 ck8)).cell? p = w8.cell? p := fun p hp => set5_far (o := j * 5) hp
                    exact ⟨k8, i8, n8, AL8, nl8, cl8, AK8, nk8, ck8, rfl, hc8, hl8, ht8, ⟨hc8.bc.x4, hx8.x0, hx8.x1, hx8.x2, hx8.x3, hx8.x4⟩, ⟨(hfar _ hnr).trans hc8.bc.x4, (hfar _ hnw).trans hx8.x0, (hfar _ hnw).trans hx8.x1, (hfar _ hnw).trans hx8.x2, (hfar _ hnw).trans hx8.x3, (hfar _ hnw).trans hx8.x4⟩, ⟨hl8.ex _ (by omega), hl8.ex _ (by omega), hl8.ex _ (by omega), hl8.ex _ (by omega), hl8.ex _ (by omega)⟩, hl8.fz _, hl8.fz _, hl8.fz _, hl8.fz _, hl8.fz _⟩)
                  clear hnn
                  go_region_held3 (fun w' => w'.cell? ⟨rb, 4, none⟩ = some (.slice (some ⟨kb, 0, none⟩) ks.length ks.length) ∧ w'.cell? ⟨wr.heap.size, 0, none⟩ = some (.int .i64 qk) ∧ w'.cell? ⟨wr.heap.size, 1, none⟩ = some (.int .i64 qi) ∧ w'.cell? ⟨wr.heap.size, 2, none⟩ = some (.string qn) ∧ w'.cell? ⟨wr.heap.size, 3, none⟩ = some (.slice qAL qnl qcl) ∧ w'.cell? ⟨wr.heap.size, 4, none⟩ = some (.slice qAK qnk qck))
                    (first | with_reducible exact HS.out | with_reducible exact HS9.out)
                    (first | (go_at_call 35; refine (HI.out _ _ _ _ HTZ.out HCZ.out.inv HNN.out).mono ?_; rintro e w8 h8; obtain ⟨k8, i8, n8, AL8, nl8, cl8, AK8, nk8, ck8, rfl, HC8, HK8, HT8, HS, HS9, ⟨⟨u0, g0⟩, ⟨u1, g1⟩, ⟨u2, g2⟩, ⟨u3, g3⟩, ⟨u4, g4⟩⟩, ⟨z0, z1, z2, z3, z4⟩⟩ := HAF.out _ _ h8; clear h8))
                  all_goals
                    have HFC := Lib.hid (Cs.kput HB.out HC8.out HK8.out (j * 5) (.int .i64 k8) (.int .i64 i8) (.string n8) (.slice AL8 nl8 cl8) (.slice AK8 nk8 ck8))
                    have HFK := Lib.hid (show Kl Old M w rb kb ks.length (acc.ts ++ [(cpT R q (d + bb)).t]) (set5 w8 kb (j * 5) (.int .i64 k8) (.int .i64 i8) (.string n8) (.slice AL8 nl8 cl8) (.slice AK8 nk8 ck8)) from by
                      have h := Kl.put HB.out HK8.out HC8.out.inv (w1 := (wr.alloc (.cells #[.int .i64 qk, .int .i64 qi, .string qn, .slice qAL qnl qcl, .slice qAK qnk qck] 25)).drew) (by rw [HJ5.out]; omega) (by have := HCS.out.kp.size; show _ ≤ (wr.alloc _).heap.size; simp; omega) (by have := HCS.out.bc.lt; show _ < (wr.alloc _).heap.size; simp; omega) (by show _ < (wr.alloc _).heap.size; simp; omega) HC8.out.bc.no HC8.out.b8.no HT8.out
                      rw [HJ5.out] at h
                      exact h)
                    clear HAF HS HS9 g0 g1 g2 g3 g4 z0 z1 z2 z3 z4 HI
                    go_wp2_with fail
                    go_roundw
                    case rel => exact ⟨j + 1, acc.snoc (cpT R q (d + bb)), hjl, by go_num, Lib.hid (by show (acc.ts ++ [_]).length = _; rw [List.length_append, HJ5.out]; rfl), Lib.hid (hcm.out.trans HCM.out), by show n + 1 + (acc.n + _) ≤ 4096; omega, by
                      have h := HFC.out
                      rw [er_assoc, Nat.add_assoc (n + 1), Nat.add_assoc f] at h
                      exact h, HFK.out⟩
                    case measure => simp [intOf]; omega
                · have HS := Lib.hid (And.intro HCZ.out.bc.x4 (And.intro HXZ.out.x0 (And.intro HXZ.out.x1 (And.intro HXZ.out.x2 (And.intro HXZ.out.x3 HXZ.out.x4)))))
                  have HBAD := Lib.hid (show 4096 < n + o.n from by
                    rw [HE.out]
                    have h := congrArg OuL.n (hcm.out.trans HCM.out)
                    have h2 : (comb (acc.snoc (cpT R q (d + bb))) (cpL R (ks.drop (j + 1)) k d (j + 1))).n = acc.n + (cpT R q (d + bb)).n + (cpL R (ks.drop (j + 1)) k d (j + 1)).n := rfl
                    rw [h2] at h
                    show 4096 < n + (1 + (cpL R ks k d 0).n)
                    omega)
                  refine wp_region_held_drew (S := fun w' => w'.cell? ⟨rb, 4, none⟩ = some (.slice (some ⟨kb, 0, none⟩) ks.length ks.length) ∧ w'.cell? ⟨wr.heap.size, 0, none⟩ = some (.int .i64 qk) ∧ w'.cell? ⟨wr.heap.size, 1, none⟩ = some (.int .i64 qi) ∧ w'.cell? ⟨wr.heap.size, 2, none⟩ = some (.string qn) ∧ w'.cell? ⟨wr.heap.size, 3, none⟩ = some (.slice qAL qnl qcl) ∧ w'.cell? ⟨wr.heap.size, 4, none⟩ = some (.slice qAK qnk qck)) (by kernel_rfl) (HS.out) ?_
                  intro hS
                  refine wpAnyH_take (i := 0) (oi := { dst := some 62, op := Op.fieldAddr 25 (Operand.tmp 11) 4, type := 0, pos := "build.go:50", after := #[], guard := none }) (v := .pointer (some ⟨rb, 4, none⟩)) rfl (by kernel_rfl) (by kernel_rfl) (by kernel_rfl) (fun _ _ _ h => h) (Or.inl ⟨by rfl, ?_⟩) hS ?_
                  · intro w9 hSw
                    obtain ⟨s0, s1, s2, s3, s4, s5⟩ := hSw
                    go_simp
                  simp only [Act.put, List.setIfInBounds_toArray, List.set_cons_zero, List.set_cons_succ]
                  refine wpAnyH_take (i := 1) (oi := { dst := some 63, op := Op.load 23 (Operand.tmp 62), type := 23, pos := "build.go:50", after := #[{ on := 0, ground := Ground.data }], guard := none }) (v := .slice (some ⟨kb, 0, none⟩) ks.length ks.length) rfl (by kernel_rfl) (by kernel_rfl) (by kernel_rfl) (fun _ _ _ h => h) (Or.inl ⟨by rfl, ?_⟩) hS ?_
                  · intro w9 hSw
                    obtain ⟨s0, s1, s2, s3, s4, s5⟩ := hSw
                    go_simp
                  simp only [Act.put, List.setIfInBounds_toArray, List.set_cons_zero, List.set_cons_succ]
                  refine wpAnyH_take (i := 2) (oi := { dst := some 64, op := Op.move (Operand.tmp 12), type := 3, pos := "build.go:50", after := #[], guard := none }) (v := .int .i64 j) rfl (by kernel_rfl) (by kernel_rfl) (by kernel_rfl) (fun _ _ _ h => h) (Or.inl ⟨by rfl, ?_⟩) hS ?_
                  · intro w9 hSw
                    obtain ⟨s0, s1, s2, s3, s4, s5⟩ := hSw
                    go_simp
                  simp only [Act.put, List.setIfInBounds_toArray, List.set_cons_zero, List.set_cons_succ]
                  refine wpAnyH_take (i := 3) (oi := { dst := some 65, op := Op.move (Operand.tmp 0), type := 66, pos := "build.go:50", after := #[], guard := none }) (v := .pointer (some ⟨pb, 0, none⟩)) rfl (by kernel_rfl) (by kernel_rfl) (by kernel_rfl) (fun _ _ _ h => h) (Or.inl ⟨by rfl, ?_⟩) hS ?_
                  · intro w9 hSw
                    obtain ⟨s0, s1, s2, s3, s4, s5⟩ := hSw
                    go_simp
                  simp only [Act.put, List.setIfInBounds_toArray, List.set_cons_zero, List.set_cons_succ]
                  refine wpAnyH_take (i := 4) (oi := { dst := some 66, op := Op.load 25 (Operand.tmp 13), type := 25, pos := "build.go:50", after := #[], guard := none }) (v := .agg #[.int .i64 qk, .int .i64 qi, .string qn, .slice qAL qnl qcl, .slice qAK qnk qck]) rfl (by kernel_rfl) (by kernel_rfl) (by kernel_rfl) (fun _ _ _ h => h) (Or.inl ⟨by rfl, ?_⟩) hS ?_
                  · intro w9 hSw
                    obtain ⟨s0, s1, s2, s3, s4, s5⟩ := hSw
                    go_simp
                  simp only [Act.put, List.setIfInBounds_toArray, List.set_cons_zero, List.set_cons_succ]
                  refine wpAnyH_take (i := 5) (oi := { dst := some 67, op := Op.move (Operand.tmp 14), type := 3, pos := "build.go:50", after := #[], guard := none }) (v := v5) rfl (by kernel_rfl) (by kernel_rfl) (by kernel_rfl) (fun _ _ _ h => h) (Or.inl ⟨by rfl, ?_⟩) hS ?_
                  · intro w9 hSw
                    rw [HV5.out]
                    obtain ⟨s0, s1, s2, s3, s4, s5⟩ := hSw
                    go_simp
                  simp only [Act.put, List.setIfInBounds_toArray, List.set_cons_zero, List.set_cons_succ]
                  refine wpAnyH_take (i := 6) (oi := { dst := some 68, op := Op.move (Operand.tmp 3), type := 59, pos := "build.go:50", after := #[], guard := none }) (v := .func (.func fn) #[] cap) rfl (by kernel_rfl) (by kernel_rfl) (by kernel_rfl) (fun _ _ _ h => h) (Or.inl ⟨by rfl, ?_⟩) hS ?_
                  · intro w9 hSw
                    obtain ⟨s0, s1, s2, s3, s4, s5⟩ := hSw
                    go_simp
                  simp only [Act.put, List.setIfInBounds_toArray, List.set_cons_zero, List.set_cons_succ]
                  refine wpAnyH_ready (rs := [7]) (by kernel_rfl) (List.cons_ne_nil _ _) ?_
                  refine AllReadyH.cons (o := { dst := some 69, op := Op.call { callee := Callee.value (Operand.func 35), args := #[Operand.tmp 65, Operand.tmp 66, Operand.tmp 67, Operand.tmp 68], argTypes := #[66, 25, 3, 59] }, type := 25, pos := "build.go:50", after := #[{ on := 3, ground := Ground.data }, { on := 4, ground := Ground.data }, { on := 5, ground := Ground.data }, { on := 6, ground := Ground.data }], guard := none }) rfl (fun K hK => ?_) AllReadyH.nil
                  go_simp
                  go_at_call 35
                  refine (HI.out _ _ _ _ HTZ.out HCZ.out.inv HNN.out).mono ?_
                  rintro e w8 h8
                  obtain ⟨hk8, rfl⟩ := h8.bad hpan
                  have HK8 := Lib.hid (HCZ.out.kp.trans hk8)
                  clear h8 hk8
                  exact ⟨rfl, HK8.out, .inr ⟨HBAD.out, rfl⟩⟩
            · have hji : decide ((j : Int) < (ks.length : Int)) = false := by rw [decide_eq_false_iff_not]; omega
              have hjn : j = ks.length := by omega
              obtain ⟨y0, y1, y2, y3, y4, f0, f1, f2, f3, f4, _, _⟩ := HCS.out.b8
              obtain ⟨z0, z1, z2, z3, z4, _, _, _, _, _, _, _⟩ := HCS.out.bc
              have HZL := Lib.hid (show acc = cpL R ks k d 0 from by rw [hcm.out, List.drop_of_length_le (by omega), comb_end])
              have hn8 : w.heap.size + 1 ≠ rb := by have := HCS.out.lo; omega
              have hts : acc.ts.length = ks.length := by rw [hal.out, hjn]
              have hkg := HKL.out.gt
              have htm : TmP wr (fun q => ((Old q ∨ w.heap.size ≤ q) ∧ q ≠ w.heap.size + 1) ∧ ¬ M wr q) (.mk k i nm ls acc.ts) (.agg #[.int .i64 k, .int .i64 i, .string nm, .slice A5 ls.length cap5, .slice (some ⟨kb, 0, none⟩) ks.length ks.length]) := by
                rw [TmP]
                refine ⟨A5, cap5, some ⟨kb, 0, none⟩, ks.length, by rw [hts], HCS.out.lv.mono (fun q hq _ => ⟨⟨hq.1.1, hq.1.2.2.1⟩, hq.2⟩), by rw [hts]; exact hkz, fun _ => ⟨kb, 0, rfl, ⟨⟨.inr (by omega), by omega⟩, HKL.out.nm⟩, KsP.of_at _ _ fun i t hi => ?_⟩⟩
                obtain ⟨c0, c1, c2, c3, c4, h0, h1, h2, h3, h4, ht⟩ := HKL.out.tm i t hi
                rw [Nat.zero_add]
                exact ⟨c0, c1, c2, c3, c4, h0, h1, h2, h3, h4, TmP.mono (fun q hq _ => ⟨⟨hq.1.1, hq.1.2.2.1⟩, hq.2⟩) _ _ ht⟩
              have h9 := set5_kp HB.out HCS.out.kp HCS.out.inv (o := 0) (by omega) HCS.out.b8.no HCS.out.b8.nm (.int .i64 k) (.int .i64 i) (.string nm) (.slice A5 ls.length cap5) (.slice (some ⟨kb, 0, none⟩) ks.length ks.length)
              have h8 := set5_tm HB.out HCS.out.inv (o := 0) HCS.out.b8.no HCS.out.b8.nm (v0 := .int .i64 k) (v1 := .int .i64 i) (v2 := .string nm) (v3 := .slice A5 ls.length cap5) (v4 := .slice (some ⟨kb, 0, none⟩) ks.length ks.length) (fun q hq => hq.2) htm
              have h7 := set5_at (w := wr) (b := w.heap.size + 1) (o := 0) (v0 := .int .i64 k) (v1 := .int .i64 i) (v2 := .string nm) (v3 := .slice A5 ls.length cap5) (v4 := .slice (some ⟨kb, 0, none⟩) ks.length ks.length) (fun q hq => by
                have : q = 0 ∨ q = 1 ∨ q = 2 ∨ q = 3 ∨ q = 4 := by omega
                rcases this with rfl | rfl | rfl | rfl | rfl
                · exact ⟨_, y0⟩
                · exact ⟨_, y1⟩
                · exact ⟨_, y2⟩
                · exact ⟨_, y3⟩
                · exact ⟨_, y4⟩)
              unfold set5 at h7 h8 h9
              simp only [Nat.zero_add] at h7 h8 h9
              have H7 := Lib.hid (And.intro h7 (And.intro h8 h9))
              clear hjn hts htm h7 h8 h9
              go_wp2_with fail
              generalize (((((wr.setCell ⟨w.heap.size + 1, 0, none⟩ (.int .i64 k)).setCell ⟨w.heap.size + 1, 1, none⟩ (.int .i64 i)).setCell ⟨w.heap.size + 1, 2, none⟩ (.string nm)).setCell ⟨w.heap.size + 1, 3, none⟩ (.slice A5 ls.length cap5)).setCell ⟨w.heap.size + 1, 4, none⟩ (.slice (some ⟨kb, 0, none⟩) ks.length ks.length)) = w9 at H7 ⊢
              clear y0 y1 y2 y3 y4 f0 f1 f2 f3 f4
              obtain ⟨y0, y1, y2, y3, y4⟩ := H7.out.1
              have hox : o = ⟨1 + acc.n, acc.f, acc.e, .mk k i nm ls acc.ts⟩ := by rw [HE.out, ← HZL.out]
              exact bodyPost_ret (v := .agg #[.int .i64 k, .int .i64 i, .string nm, .slice A5 ls.length cap5, .slice (some ⟨kb, 0, none⟩) ks.length ks.length]) (by simp [results, Tryd.results35, go_sem, y0, y1, y2, y3, y4]) rfl (by rw [hox]; exact ⟨H7.out.2.2.1, .inl ⟨by show n + (1 + acc.n) ≤ 4096; omega, _, rfl, TmP.mono (fun q hq _ => ⟨hq.1.1, hq.2⟩) _ _ H7.out.2.1, by
                have h := H7.out.2.2.2
                rw [Nat.add_assoc n] at h
                exact h⟩⟩)
    · refine (count_out pb n _ (HB.out.n_ HK2.out.2) (HB.out.fz HK2.out.2).1 (by omega) (by omega)).mono ?_
      rintro e w3 ⟨rfl, hw3⟩
      have HK3 : Hid (Kp M w w3) := Lib.hid (by rw [hw3]; exact (HK2.out.1.setN HB.out HK2.out.2).1)
      clear hw3 HK2 HX2 HY2
      go_wp2_with fail
      exact ⟨rfl, by rw [HE.out]; exact ⟨HK3.out, .inr ⟨by show 4096 < n + (1 + _); omega, rfl⟩⟩⟩
end
end Go.Proofs.YtobaeeobfcffoaaDoor
