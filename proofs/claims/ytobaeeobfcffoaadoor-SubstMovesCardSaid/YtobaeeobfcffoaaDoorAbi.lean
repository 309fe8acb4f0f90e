/- What Abstract's closure keeps in memory. -/
import Derived.Test.YtobaeeobfcffoaaDoorUnp
import Derived.Deep.AppendLies
namespace Go.Proofs.YtobaeeobfcffoaaDoor
open Go.RowKit
/-- The blocks through which a value reads as a term. -/
def BkT (w : World) (t : Tm) (v : Value) (q : Nat) : Prop := ∀ S : Nat → Prop, TmP w S t v → S q
theorem VP.inter {w : World} {S0 : Nat → Prop} {A : Option Addr} {vs : List (Int × Int)} (h : VP w S0 A vs) : VP w (fun q => ∀ S, VP w S A vs → S q) A vs :=
  ⟨h.1, fun hn => by
    obtain ⟨b, off, e, hb, hc⟩ := h.2 hn
    refine ⟨b, off, e, fun S hS => ?_, hc⟩
    obtain ⟨b', off', e', hb', _⟩ := hS.2 hn
    rw [e] at e'
    cases e'
    exact hb'⟩
theorem LvsP.inter {w : World} {S0 : Nat → Prop} {A : Option Addr} {ls : List (Int × List (Int × Int))} (h : LvsP w S0 A ls) : LvsP w (fun q => ∀ S, LvsP w S A ls → S q) A ls :=
  ⟨h.1, fun hn => by
    obtain ⟨b, off, e, hb, hc⟩ := h.2 hn
    refine ⟨b, off, e, fun S hS => ?_, fun j c vs hj => ?_⟩
    · obtain ⟨b', off', e', hb', _⟩ := hS.2 hn
      rw [e] at e'
      cases e'
      exact hb'
    · obtain ⟨h1, A', cap, h2, h3⟩ := hc j c vs hj
      refine ⟨h1, A', cap, h2, h3.inter.mono fun q hq _ S hS => hq S ?_⟩
      obtain ⟨b', off', e', _, hc'⟩ := hS.2 hn
      rw [e] at e'
      cases e'
      obtain ⟨_, A'', cap'', h2', h3'⟩ := hc' j c vs hj
      rw [h2] at h2'
      cases h2'
      exact h3'⟩
mutual
theorem TmP.inter {w : World} {S0 : Nat → Prop} : ∀ (t : Tm) (v : Value), TmP w S0 t v → TmP w (BkT w t v) t v
  | .mk k i nm ls ks, v, h => by
    have h0 := h
    rw [TmP] at h
    obtain ⟨AL, cl, AK, ck, rfl, hl, hz, hks⟩ := h
    have hop : ∀ S, TmP w S (.mk k i nm ls ks) (.agg #[.int .i64 k, .int .i64 i, .string nm, .slice AL ls.length cl, .slice AK ks.length ck]) → LvsP w S AL ls ∧ (0 < ks.length → ∃ b off, AK = some ⟨b, off, none⟩ ∧ S b ∧ KsP w S b off ks) := fun S hS => by
      rw [TmP] at hS
      obtain ⟨AL', cl', AK', ck', e, hl', _, hks'⟩ := hS
      simp only [Value.agg.injEq, Array.mk.injEq, List.cons.injEq, Value.slice.injEq, and_true, true_and] at e
      obtain ⟨⟨rfl, rfl⟩, rfl, rfl⟩ := e
      exact ⟨hl', hks'⟩
    rw [TmP]
    refine ⟨AL, cl, AK, ck, rfl, hl.inter.mono fun q hq _ S hS => hq S (hop S hS).1, hz, fun hn => ?_⟩
    obtain ⟨b, off, e, hb, hc⟩ := hks hn
    refine ⟨b, off, e, fun S hS => ?_, KsP.mono (fun q hq _ S hS => hq S ?_) b ks off (KsP.inter b ks off hc)⟩
    · obtain ⟨b', off', e', hb', _⟩ := (hop S hS).2 hn
      rw [e] at e'
      cases e'
      exact hb'
    · obtain ⟨b', off', e', _, hc'⟩ := (hop S hS).2 hn
      rw [e] at e'
      cases e'
      exact hc'
theorem KsP.inter {w : World} {S0 : Nat → Prop} (b : Nat) : ∀ (ks : List Tm) (off : Nat), KsP w S0 b off ks → KsP w (fun q => ∀ S, KsP w S b off ks → S q) b off ks
  | [], _, _ => by rw [KsP]; trivial
  | t :: r, off, h => by
    rw [KsP] at h
    obtain ⟨⟨c0, c1, c2, c3, c4, h0, h1, h2, h3, h4, ht⟩, hr⟩ := h
    have hop : ∀ S, KsP w S b off (t :: r) → TmP w S t (.agg #[c0, c1, c2, c3, c4]) ∧ KsP w S b (off + 5) r := fun S hS => by
      rw [KsP] at hS
      obtain ⟨⟨d0, d1, d2, d3, d4, g0, g1, g2, g3, g4, gt⟩, gr⟩ := hS
      rw [h0] at g0
      rw [h1] at g1
      rw [h2] at g2
      rw [h3] at g3
      rw [h4] at g4
      cases g0
      cases g1
      cases g2
      cases g3
      cases g4
      exact ⟨gt, gr⟩
    rw [KsP]
    exact ⟨⟨c0, c1, c2, c3, c4, h0, h1, h2, h3, h4, TmP.mono (fun q hq _ S hS => hq S (hop S hS).1) t _ (TmP.inter t _ ht)⟩, KsP.mono (fun q hq _ S hS => hq S (hop S hS).2) b r _ (KsP.inter b r _ hr)⟩
end
theorem BkT.keep {w w' : World} {S : Nat → Prop} {t : Tm} {v : Value} (h : TmP w S t v) (hk : ∀ q, BkT w t v q → w'.heap[q]? = w.heap[q]?) : TmP w' (BkT w t v) t v := TmP.keep (fun _ hp => World.cell?_of_block (w := w) (hk _ hp)) t v (TmP.inter t v h)
theorem BkT.back {w w' : World} {S : Nat → Prop} {t : Tm} {v : Value} (h : TmP w S t v) (hk : ∀ q, BkT w t v q → w'.heap[q]? = w.heap[q]?) {q : Nat} (hq : BkT w' t v q) : BkT w t v q := hq _ (BkT.keep h hk)

/-- The part, shifted; whether that can be. -/
def PT (part : Tm) (j : Nat) : Tm := shO (j : Int) 0 part
def EX (part : Tm) (j : Nat) : Bool := decide (shE (j : Int) 0 part = 0)
structure AbC where
  W : World
  Old : Nat → Prop
  pp : Nat
  pf : Nat
  part : Tm
namespace AbC
variable (C : AbC)
def pb : Nat := C.W.heap.size + 1 + 1 + 1
structure Ok : Prop where
  old : ∀ q, C.Old q → q < C.W.heap.size
  pp : C.pp < C.W.heap.size
  pf : C.pf < C.W.heap.size
  npp : ¬ C.Old C.pp
  npf : ¬ C.Old C.pf
  ne : C.pp ≠ C.pf
/-- Element j of the list of shifted parts. -/
def El (w : World) (g j : Nat) : Prop := ∃ c0 c1 c2 c3 c4, w.cell? ⟨g, j * 6, none⟩ = some c0 ∧ w.cell? ⟨g, j * 6 + 1, none⟩ = some c1 ∧ w.cell? ⟨g, j * 6 + 2, none⟩ = some c2 ∧ w.cell? ⟨g, j * 6 + 3, none⟩ = some c3 ∧ w.cell? ⟨g, j * 6 + 4, none⟩ = some c4 ∧ w.cell? ⟨g, j * 6 + 5, none⟩ = some (.bool (EX C.part j)) ∧ TmP w (fun q => (C.Old q ∨ C.W.heap.size + 4 ≤ q) ∧ q ≠ g) (PT C.part j) (.agg #[c0, c1, c2, c3, c4])
/-- The slice of shifted parts. -/
def Pts (L : Nat) (w : World) : Prop := ∃ v us, w.cell? ⟨C.pp, 0, none⟩ = some v ∧ w.frozen? ⟨C.pp, 0, none⟩ = false ∧ w.ownsRow (C.W.heap.size + 4) 76 6 v L us ∧ ∀ g c, v = .slice (some ⟨g, 0, none⟩) L c → ∀ j, j < L → C.El w g j
def M (w : World) (q : Nat) : Prop := q = C.pb ∨ q = C.pf ∨ q = C.pp ∨ ∃ g len cap, w.cell? ⟨C.pp, 0, none⟩ = some (.slice (some ⟨g, 0, none⟩) len cap) ∧ (q = g ∨ (¬ C.Old q ∧ ∃ j c0 c1 c2 c3 c4, j < len ∧ w.cell? ⟨g, j * 6, none⟩ = some c0 ∧ w.cell? ⟨g, j * 6 + 1, none⟩ = some c1 ∧ w.cell? ⟨g, j * 6 + 2, none⟩ = some c2 ∧ w.cell? ⟨g, j * 6 + 3, none⟩ = some c3 ∧ w.cell? ⟨g, j * 6 + 4, none⟩ = some c4 ∧ BkT w (PT C.part j) (.agg #[c0, c1, c2, c3, c4]) q))
def Inv (d n f : Nat) (e : Int) (w : World) : Prop :=
  (w.cell? ⟨C.pb, 0, none⟩ = some (.int .i64 n) ∧ w.cell? ⟨C.pb, 1, none⟩ = some (.int .i64 e) ∧ w.frozen? ⟨C.pb, 0, none⟩ = false ∧ w.frozen? ⟨C.pb, 1, none⟩ = false) ∧ (w.cell? ⟨C.pf, 0, none⟩ = some (.int .i64 (IntKind.i64.wrap f)) ∧ w.frozen? ⟨C.pf, 0, none⟩ = false) ∧ C.W.heap.size + 4 ≤ w.heap.size ∧ (∀ q, C.Old q → w.heap[q]? = C.W.heap[q]?) ∧ ∃ L, d ≤ L ∧ C.Pts L w
theorem Pts.blk {L : Nat} {w : World} {C : AbC} (h : C.Pts L w) {g len cap : Nat} (hg : w.cell? ⟨C.pp, 0, none⟩ = some (.slice (some ⟨g, 0, none⟩) len cap)) : len = L ∧ C.W.heap.size + 4 ≤ g ∧ g < w.heap.size ∧ ∀ j, j < L → C.El w g j := by
  obtain ⟨v, us, hv, _, ho, hel⟩ := h
  rw [hv] at hg
  cases hg
  rcases ho.2 with ⟨h', _⟩ | ⟨g', cap', cur, h', hb, hg, _⟩
  · simp at h'
  · simp only [Value.slice.injEq, Option.some.injEq, Addr.mk.injEq, and_true] at h'
    obtain ⟨rfl, rfl, rfl⟩ := h'
    exact ⟨rfl, hb, (Array.getElem?_eq_some_iff.1 hg).1, hel _ _ rfl⟩
/-- The list of parts where other blocks alone are written. -/
theorem Pts.keep {C : AbC} (hC : C.Ok) {L : Nat} {w w' : World} (h : C.Pts L w) (hk : ∀ q, C.Old q ∨ C.M w q → q ≠ C.pb → q ≠ C.pf → w'.heap[q]? = w.heap[q]?) : C.Pts L w' ∧ ∀ q, C.M w' q → C.M w q := by
  have h0 := h
  obtain ⟨v, us, hv, hf, ho, hel⟩ := h
  have hpp : w'.heap[C.pp]? = w.heap[C.pp]? := hk _ (.inr (.inr (.inr (.inl rfl)))) (by have := hC.pp; unfold pb; omega) hC.ne
  have hcp : ∀ j, w'.cell? ⟨C.pp, j, none⟩ = w.cell? ⟨C.pp, j, none⟩ := fun j => World.cell?_of_block (w := w) (a := ⟨C.pp, j, none⟩) hpp
  have hg : ∀ g len cap, w.cell? ⟨C.pp, 0, none⟩ = some (.slice (some ⟨g, 0, none⟩) len cap) → w'.heap[g]? = w.heap[g]? := fun g len cap hg => hk g (.inr (.inr (.inr (.inr ⟨g, len, cap, hg, .inl rfl⟩)))) (by have := (h0.blk hg).2.1; unfold pb; omega) (by have := (h0.blk hg).2.1; have := hC.pf; omega)
  have hcg : ∀ g len cap, w.cell? ⟨C.pp, 0, none⟩ = some (.slice (some ⟨g, 0, none⟩) len cap) → ∀ j, w'.cell? ⟨g, j, none⟩ = w.cell? ⟨g, j, none⟩ := fun g len cap h j => World.cell?_of_block (w := w) (a := ⟨g, j, none⟩) (hg g len cap h)
  have hbk : ∀ g len cap, w.cell? ⟨C.pp, 0, none⟩ = some (.slice (some ⟨g, 0, none⟩) len cap) → ∀ j c0 c1 c2 c3 c4, j < L → w.cell? ⟨g, j * 6, none⟩ = some c0 → w.cell? ⟨g, j * 6 + 1, none⟩ = some c1 → w.cell? ⟨g, j * 6 + 2, none⟩ = some c2 → w.cell? ⟨g, j * 6 + 3, none⟩ = some c3 → w.cell? ⟨g, j * 6 + 4, none⟩ = some c4 → TmP w (fun q => (C.Old q ∨ C.W.heap.size + 4 ≤ q) ∧ q ≠ g) (PT C.part j) (.agg #[c0, c1, c2, c3, c4]) → ∀ q, BkT w (PT C.part j) (.agg #[c0, c1, c2, c3, c4]) q → w'.heap[q]? = w.heap[q]? := fun g len cap hgg j c0 c1 c2 c3 c4 hj h0' h1 h2 h3 h4 ht q hq => by
    have hS := hq _ ht
    have hL := (h0.blk hgg).1
    by_cases hoq : C.Old q
    · exact hk q (.inl hoq) (by have := hC.old q hoq; unfold pb; omega) (fun e => hC.npf (e ▸ hoq))
    · have hs : C.W.heap.size + 4 ≤ q := hS.1.resolve_left hoq
      exact hk q (.inr (.inr (.inr (.inr ⟨g, len, cap, hgg, .inr ⟨hoq, j, c0, c1, c2, c3, c4, by omega, h0', h1, h2, h3, h4, hq⟩⟩)))) (by unfold pb; omega) (by have := hC.pf; omega)
  refine ⟨⟨v, us, (hcp 0).trans hv, (World.frozen?_of_block (w := w) (a := ⟨C.pp, 0, none⟩) hpp).trans hf, ?_, ?_⟩, ?_⟩
  · refine ⟨ho.1, ?_⟩
    rcases ho.2 with h' | ⟨g, cap, cur, e, hb, hgg, r⟩
    · exact .inl h'
    · exact .inr ⟨g, cap, cur, e, hb, (hg g L cap (by rw [hv, e])).trans hgg, r⟩
  · intro g c e j hj
    have hv' : w.cell? ⟨C.pp, 0, none⟩ = some (.slice (some ⟨g, 0, none⟩) L c) := by rw [hv, e]
    obtain ⟨c0, c1, c2, c3, c4, h0', h1, h2, h3, h4, h5, ht⟩ := hel g c e j hj
    have hcc := hcg g L c hv'
    exact ⟨c0, c1, c2, c3, c4, (hcc _).trans h0', (hcc _).trans h1, (hcc _).trans h2, (hcc _).trans h3, (hcc _).trans h4, (hcc _).trans h5, TmP.mono (fun q hq _ => hq _ ht) _ _ (BkT.keep ht (hbk g L c hv' j c0 c1 c2 c3 c4 hj h0' h1 h2 h3 h4 ht))⟩
  · rintro q (rfl | rfl | rfl | ⟨g, len, cap, hgg, hq⟩)
    · exact .inl rfl
    · exact .inr (.inl rfl)
    · exact .inr (.inr (.inl rfl))
    · rw [hcp 0] at hgg
      refine .inr (.inr (.inr ⟨g, len, cap, hgg, ?_⟩))
      rcases hq with rfl | ⟨hno, j, c0, c1, c2, c3, c4, hj, h0', h1, h2, h3, h4, hb⟩
      · exact .inl rfl
      · have hcc := hcg g len cap hgg
        rw [hcc] at h0' h1 h2 h3 h4
        have hbl := h0.blk hgg
        obtain ⟨e0, e1, e2, e3, e4, g0, g1, g2, g3, g4, _, ht⟩ := hbl.2.2.2 j (by omega)
        rw [h0'] at g0
        rw [h1] at g1
        rw [h2] at g2
        rw [h3] at g3
        rw [h4] at g4
        cases g0
        cases g1
        cases g2
        cases g3
        cases g4
        exact .inr ⟨hno, j, c0, c1, c2, c3, c4, hj, h0', h1, h2, h3, h4, BkT.back ht (hbk g len cap hgg j c0 c1 c2 c3 c4 (by omega) h0' h1 h2 h3 h4 ht) hb⟩
theorem bld {C : AbC} (hC : C.Ok) : Bld C.pb C.Old C.Inv C.M where
  n_ := fun h => h.1.1
  e_ := fun h => h.1.2.1
  fz := fun h => ⟨h.1.2.2.1, h.1.2.2.2⟩
  lt := fun {d n f e w k} h hm => by
    obtain ⟨_, _, hs, _, L, _, hp⟩ := h
    rcases hm with rfl | rfl | rfl | ⟨g, len, cap, hgg, hq⟩
    · exact ⟨by unfold pb; omega, fun ho => by have := hC.old _ ho; unfold pb at this; omega⟩
    · exact ⟨by have := hC.pf; omega, hC.npf⟩
    · exact ⟨by have := hC.pp; omega, hC.npp⟩
    · have hb := hp.blk hgg
      rcases hq with rfl | ⟨hno, j, c0, c1, c2, c3, c4, hj, h0', h1, h2, h3, h4, hbk⟩
      · exact ⟨hb.2.2.1, fun ho => by have := hC.old _ ho; omega⟩
      · obtain ⟨e0, e1, e2, e3, e4, g0, g1, g2, g3, g4, _, ht⟩ := hb.2.2.2 j (by omega)
        rw [h0'] at g0
        rw [h1] at g1
        rw [h2] at g2
        rw [h3] at g3
        rw [h4] at g4
        cases g0
        cases g1
        cases g2
        cases g3
        cases g4
        exact ⟨hbk _ (TmP.mono (fun q _ hl => hl) _ _ ht), hno⟩
  old := fun {d n f e w k} h ho => by have := hC.old k ho; have := h.2.2.1; omega
  mb := fun _ => .inl rfl
  mono := fun {d d' n f e w} h hd => by
    obtain ⟨h1, h2, h3, h4, L, h5, h6⟩ := h
    exact ⟨h1, h2, h3, h4, L, by omega, h6⟩
  still := fun {d n f e w w'} h hs => by
    obtain ⟨h1, h2, h3, h4, L, h5, h6⟩ := h
    have hsz : ∀ q, C.Old q ∨ C.M w q → q < w.heap.size := fun q hq => by
      rcases hq with ho | hm
      · have := hC.old q ho; omega
      · rcases hm with rfl | rfl | rfl | ⟨g, len, cap, hgg, hq⟩
        · unfold pb; omega
        · have := hC.pf; omega
        · have := hC.pp; omega
        · have hb := h6.blk hgg
          rcases hq with rfl | ⟨hno, j, c0, c1, c2, c3, c4, hj, h0', k1, k2, k3, k4, hbk⟩
          · exact hb.2.2.1
          · obtain ⟨e0, e1, e2, e3, e4, g0, g1, g2, g3, g4, _, ht⟩ := hb.2.2.2 j (by omega)
            rw [h0'] at g0
            rw [k1] at g1
            rw [k2] at g2
            rw [k3] at g3
            rw [k4] at g4
            cases g0
            cases g1
            cases g2
            cases g3
            cases g4
            exact hbk _ (TmP.mono (fun q _ hl => hl) _ _ ht)
    have hk := h6.keep hC (w' := w') (fun q hq _ _ => hs.2 q hq (hsz q hq))
    have hb : w'.heap[C.pb]? = w.heap[C.pb]? := hs.2 _ (.inr (.inl rfl)) (hsz _ (.inr (.inl rfl)))
    have hf : w'.heap[C.pf]? = w.heap[C.pf]? := hs.2 _ (.inr (.inr (.inl rfl))) (hsz _ (.inr (.inr (.inl rfl))))
    exact ⟨⟨⟨(World.cell?_of_block (w := w) (a := ⟨C.pb, 0, none⟩) hb).trans h1.1, (World.cell?_of_block (w := w) (a := ⟨C.pb, 1, none⟩) hb).trans h1.2.1, (World.frozen?_of_block (w := w) (a := ⟨C.pb, 0, none⟩) hb).trans h1.2.2.1, (World.frozen?_of_block (w := w) (a := ⟨C.pb, 1, none⟩) hb).trans h1.2.2.2⟩, ⟨(World.cell?_of_block (w := w) (a := ⟨C.pf, 0, none⟩) hf).trans h2.1, (World.frozen?_of_block (w := w) (a := ⟨C.pf, 0, none⟩) hf).trans h2.2⟩, by have := hs.1; omega, fun q hq => (hs.2 q (.inl hq) (hsz q (.inl hq))).trans (h4 q hq), L, h5, hk.1⟩, hk.2⟩
  setN := fun {d n n' f e w} h => by
    obtain ⟨h1, h2, h3, h4, L, h5, h6⟩ := h
    have hk := h6.keep hC (w' := w.setCell ⟨C.pb, 0, none⟩ (.int .i64 n')) (fun q _ hb _ => Below.heap_setCell _ _ _ _ hb)
    have hpf : C.pf ≠ C.pb := by have := hC.pf; unfold pb; omega
    have hf : (w.setCell ⟨C.pb, 0, none⟩ (.int .i64 n')).heap[C.pf]? = w.heap[C.pf]? := Below.heap_setCell _ _ _ _ hpf
    refine ⟨⟨⟨set_same h1.1, set_other h1.2.1 (by decide), ?_, ?_⟩, ⟨(World.cell?_of_block (w := w) (a := ⟨C.pf, 0, none⟩) hf).trans h2.1, (World.frozen?_of_block (w := w) (a := ⟨C.pf, 0, none⟩) hf).trans h2.2⟩, by simpa [World.setCell] using h3, fun q hq => (Below.heap_setCell _ _ _ _ (by show q ≠ C.pb; have := hC.old q hq; unfold pb; omega)).trans (h4 q hq), L, h5, hk.1⟩, hk.2⟩
    · have := h1.2.2.1; go_simp
    · have := h1.2.2.2; go_simp
  setE := fun {d n f e e' w} h => by
    obtain ⟨h1, h2, h3, h4, L, h5, h6⟩ := h
    have hk := h6.keep hC (w' := w.setCell ⟨C.pb, 1, none⟩ (.int .i64 e')) (fun q _ hb _ => Below.heap_setCell _ _ _ _ hb)
    have hpf : C.pf ≠ C.pb := by have := hC.pf; unfold pb; omega
    have hf : (w.setCell ⟨C.pb, 1, none⟩ (.int .i64 e')).heap[C.pf]? = w.heap[C.pf]? := Below.heap_setCell _ _ _ _ hpf
    refine ⟨⟨⟨set_other h1.1 (by decide), set_same h1.2.1, ?_, ?_⟩, ⟨(World.cell?_of_block (w := w) (a := ⟨C.pf, 0, none⟩) hf).trans h2.1, (World.frozen?_of_block (w := w) (a := ⟨C.pf, 0, none⟩) hf).trans h2.2⟩, by simpa [World.setCell] using h3, fun q hq => (Below.heap_setCell _ _ _ _ (by show q ≠ C.pb; have := hC.old q hq; unfold pb; omega)).trans (h4 q hq), L, h5, hk.1⟩, hk.2⟩
    · have := h1.2.2.1; go_simp
    · have := h1.2.2.2; go_simp
/-- One occurrence more. -/
theorem setF {C : AbC} (hC : C.Ok) {d n f f' : Nat} {e : Int} {w0 w : World} (hk0 : Kp C.M w0 w) (h : C.Inv d n f e w) : Kp C.M w0 (w.setCell ⟨C.pf, 0, none⟩ (.int .i64 (IntKind.i64.wrap f'))) ∧ C.Inv d n f' e (w.setCell ⟨C.pf, 0, none⟩ (.int .i64 (IntKind.i64.wrap f'))) := by
  have h0 := h
  obtain ⟨h1, h2, h3, h4, L, h5, h6⟩ := h
  have hk := h6.keep hC (w' := w.setCell ⟨C.pf, 0, none⟩ (.int .i64 (IntKind.i64.wrap f'))) (fun q _ _ hf => Below.heap_setCell _ _ _ _ hf)
  have hpf : C.pb ≠ C.pf := by have := hC.pf; unfold pb; omega
  have hf : (w.setCell ⟨C.pf, 0, none⟩ (.int .i64 (IntKind.i64.wrap f'))).heap[C.pb]? = w.heap[C.pb]? := Below.heap_setCell _ _ _ _ hpf
  refine ⟨hk0.trans ⟨rfl, rfl, rfl, by simp [World.setCell], fun q _ hq => Below.heap_setCell _ _ _ _ (by rintro rfl; exact hq (.inr (.inl rfl))), fun q hq => .inl (hk.2 q hq)⟩, ⟨(World.cell?_of_block (w := w) (a := ⟨C.pb, 0, none⟩) hf).trans h1.1, (World.cell?_of_block (w := w) (a := ⟨C.pb, 1, none⟩) hf).trans h1.2.1, (World.frozen?_of_block (w := w) (a := ⟨C.pb, 0, none⟩) hf).trans h1.2.2.1, (World.frozen?_of_block (w := w) (a := ⟨C.pb, 1, none⟩) hf).trans h1.2.2.2⟩, ⟨set_same h2.1, ?_⟩, by simpa [World.setCell] using h3, fun q hq => (Below.heap_setCell _ _ _ _ (by show q ≠ C.pf; rintro rfl; exact hC.npf hq)).trans (h4 q hq), L, h5, hk.1⟩
  have := h2.2
  go_simp
/-- One shifted part more. -/
theorem app {C : AbC} (hC : C.Ok) {d d' n f L : Nat} {e : Int} {w1 w5 w6 : World} {A1 : Option Addr} {cc : Nat} {us : List Value} (hi : C.Inv d n f e w1) (hv : w1.cell? ⟨C.pp, 0, none⟩ = some (.slice A1 L cc)) (ho : w1.ownsRow (C.W.heap.size + 4) 76 6 (.slice A1 L cc) L us)
    (hb : Below w1.heap.size w1 w5) {g6 cap6 : Nat} {c0 c1 c2 c3 c4 : Value} (hown : w6.ownsRow (C.W.heap.size + 4) 76 6 (.slice (some ⟨g6, 0, none⟩) (L + 1) cap6) (L + 1) (us ++ [c0, c1, c2, c3, c4, .bool (EX C.part L)])) (hgr : w5.grownBy w6 (Value.slice A1 L cc).ownBlock) (hat : (Value.slice A1 L cc).ownBlock = some g6 ∨ g6 = w5.heap.size)
    (ht : TmP w5 (fun q => C.Old q ∨ w1.heap.size ≤ q) (PT C.part L) (.agg #[c0, c1, c2, c3, c4])) (hdL : d' ≤ L + 1) :
    Kp C.M w1 (w6.setCell ⟨C.pp, 0, none⟩ (.slice (some ⟨g6, 0, none⟩) (L + 1) cap6)) ∧ C.Inv d' n f e (w6.setCell ⟨C.pp, 0, none⟩ (.slice (some ⟨g6, 0, none⟩) (L + 1) cap6)) := by
  have hi0 := hi
  obtain ⟨h1, h2, h3, h4, L0, _, hP⟩ := hi
  have hP0 := hP
  obtain ⟨v0, us0, hv0, hf0, ho0, hel0⟩ := hP
  rw [hv] at hv0
  cases hv0
  have hLL : L0 = L := by
    rcases ho0.2 with ⟨e', h0⟩ | ⟨g, cap, cur, e', _⟩
    · rcases ho.2 with ⟨_, h0'⟩ | ⟨g', cap', cur', e'', _⟩
      · omega
      · rw [e'] at e''; simp at e''
    · injection e' with _ e' _; exact e'.symm
  subst hLL
  -- the old array
  have hold : ∀ g, A1 = some ⟨g, 0, none⟩ → C.W.heap.size + 4 ≤ g ∧ g < w1.heap.size ∧ ∀ j, j < L0 → C.El w1 g j := fun g e => by
    have := hP0.blk (g := g) (len := L0) (cap := cc) (by rw [hv, e])
    exact this.2
  have hown1 : ∀ g, (Value.slice A1 L0 cc).ownBlock = some g → A1 = some ⟨g, 0, none⟩ := fun g e => by
    rcases ho.2 with ⟨e', _⟩ | ⟨g', cap', cur', e', _⟩
    · injection e' with e' _ _; rw [e'] at e; simp [Value.ownBlock] at e
    · injection e' with e' _ _
      rw [e'] at e ⊢
      simp [Value.ownBlock] at e
      rw [e]
  have hg6 : C.W.heap.size + 4 ≤ g6 := by
    rcases hown.2 with ⟨h', _⟩ | ⟨g, cap, cur, h', hb', _⟩
    · simp at h'
    · simp only [Value.slice.injEq, Option.some.injEq, Addr.mk.injEq, and_true, true_and] at h'
      obtain ⟨rfl, rfl⟩ := h'
      exact hb'
  have hg6lt : g6 < w6.heap.size := by
    rcases hown.2 with ⟨h', _⟩ | ⟨g, cap, cur, h', _, hh, _⟩
    · simp at h'
    · simp only [Value.slice.injEq, Option.some.injEq, Addr.mk.injEq, and_true, true_and] at h'
      obtain ⟨rfl, rfl⟩ := h'
      exact (Array.getElem?_eq_some_iff.1 hh).1
  have hg6' : A1 = some ⟨g6, 0, none⟩ ∨ w1.heap.size ≤ g6 := hat.elim (fun h => .inl (hown1 _ h)) (fun h => .inr (by rw [h]; exact hb.size))
  have hs16 : w1.heap.size ≤ w6.heap.size := Nat.le_trans hb.size hgr.size
  have hb16 : ∀ q, q < w1.heap.size → A1 ≠ some ⟨q, 0, none⟩ → w6.heap[q]? = w1.heap[q]? := fun q hq hne => (hgr.block q (Nat.lt_of_lt_of_le hq hb.size) (fun e => hne (hown1 q e.symm))).trans (hb.block q hq)
  have hpb : ∀ g, A1 = some ⟨g, 0, none⟩ → C.pb ≠ g ∧ C.pf ≠ g ∧ C.pp ≠ g := fun g e => by have := (hold g e).1; have := hC.pf; have := hC.pp; unfold pb; omega
  have hnA : ∀ q, q < C.W.heap.size + 4 → A1 ≠ some ⟨q, 0, none⟩ := fun q hq e => by have := (hold q e).1; omega
  generalize hw7 : w6.setCell ⟨C.pp, 0, none⟩ (.slice (some ⟨g6, 0, none⟩) (L0 + 1) cap6) = w7
  have h67 : ∀ q, q ≠ C.pp → w7.heap[q]? = w6.heap[q]? := fun q hq => by rw [← hw7]; exact Below.heap_setCell _ _ _ _ hq
  have h17 : ∀ q, q < w1.heap.size → A1 ≠ some ⟨q, 0, none⟩ → q ≠ C.pp → w7.heap[q]? = w1.heap[q]? := fun q hq h hp => (h67 q hp).trans (hb16 q hq h)
  have hs7 : w7.heap.size = w6.heap.size := by rw [← hw7]; simp [World.setCell]
  have hpbs : C.pb < C.W.heap.size + 4 := by unfold pb; omega
  have kb := h17 C.pb (by omega) (hnA _ hpbs) (by have := hC.pp; unfold pb; omega)
  have kf := h17 C.pf (by have := hC.pf; omega) (hnA _ (by have := hC.pf; omega)) (fun e => hC.ne e.symm)
  have hpp6 : w6.heap[C.pp]? = w1.heap[C.pp]? := hb16 C.pp (by have := hC.pp; omega) (hnA _ (by have := hC.pp; omega))
  have hv7 : w7.cell? ⟨C.pp, 0, none⟩ = some (.slice (some ⟨g6, 0, none⟩) (L0 + 1) cap6) := by rw [← hw7]; exact set_same ((World.cell?_of_block (w := w1) (a := ⟨C.pp, 0, none⟩) hpp6).trans hv)
  have hf7 : w7.frozen? ⟨C.pp, 0, none⟩ = false := by
    have h6 : w6.frozen? ⟨C.pp, 0, none⟩ = false := (World.frozen?_of_block (w := w1) (a := ⟨C.pp, 0, none⟩) hpp6).trans hf0
    rw [← hw7, World.frozen?_setCell]
    exact h6
  have hg6pp : g6 ≠ C.pp := by have := hC.pp; omega
  have ho7 : w7.ownsRow (C.W.heap.size + 4) 76 6 (.slice (some ⟨g6, 0, none⟩) (L0 + 1) cap6) (L0 + 1) (us ++ [c0, c1, c2, c3, c4, .bool (EX C.part L0)]) := by
    refine ⟨hown.1, ?_⟩
    rcases hown.2 with ⟨h', _⟩ | ⟨g, cap, cur, h', hb', hh, r⟩
    · simp at h'
    · have h'' := h'
      simp only [Value.slice.injEq, Option.some.injEq, Addr.mk.injEq, and_true, true_and] at h''
      obtain ⟨rfl, rfl⟩ := h''
      exact .inr ⟨g6, cap6, cur, rfl, hb', (h67 _ hg6pp).trans hh, r⟩
  have hcell : ∀ j u, (us ++ [c0, c1, c2, c3, c4, Value.bool (EX C.part L0)])[j]? = some u → w7.cell? ⟨g6, j, none⟩ = some u := fun j u hu => by
    have := ho7.cells (g := g6) rfl j u hu
    rw [Addr.add_lit, Nat.zero_add] at this
    exact this
  have hul : us.length = L0 * 6 := ho.1
  -- what an old element reads as
  have hel1 : ∀ j, j < L0 → ∃ c0 c1 c2 c3 c4, us[j * 6]? = some c0 ∧ us[j * 6 + 1]? = some c1 ∧ us[j * 6 + 2]? = some c2 ∧ us[j * 6 + 3]? = some c3 ∧ us[j * 6 + 4]? = some c4 ∧ us[j * 6 + 5]? = some (.bool (EX C.part j)) ∧ ∃ g, A1 = some ⟨g, 0, none⟩ ∧ w1.cell? ⟨g, j * 6, none⟩ = some c0 ∧ w1.cell? ⟨g, j * 6 + 1, none⟩ = some c1 ∧ w1.cell? ⟨g, j * 6 + 2, none⟩ = some c2 ∧ w1.cell? ⟨g, j * 6 + 3, none⟩ = some c3 ∧ w1.cell? ⟨g, j * 6 + 4, none⟩ = some c4 ∧ TmP w1 (fun q => (C.Old q ∨ C.W.heap.size + 4 ≤ q) ∧ q ≠ g) (PT C.part j) (.agg #[c0, c1, c2, c3, c4]) := fun j hj => by
    obtain ⟨g, cap, e, _⟩ := ho.form (by omega)
    injection e with e _ _
    have hc := ho.cells (g := g) (by rw [e]; rfl)
    obtain ⟨d0, d1, d2, d3, d4, k0, k1, k2, k3, k4, k5, kt⟩ := (hold g e).2.2 j hj
    have hu : ∀ i (hi : i < 6) (x : Value), w1.cell? ⟨g, j * 6 + i, none⟩ = some x → us[j * 6 + i]? = some x := fun i hi x hx => by
      have hlt : j * 6 + i < us.length := by omega
      have := hc (j * 6 + i) us[j * 6 + i] (List.getElem?_eq_getElem hlt)
      rw [Addr.add_lit, Nat.zero_add, hx] at this
      rw [List.getElem?_eq_getElem hlt]
      exact this.symm
    exact ⟨d0, d1, d2, d3, d4, hu 0 (by omega) _ k0, hu 1 (by omega) _ k1, hu 2 (by omega) _ k2, hu 3 (by omega) _ k3, hu 4 (by omega) _ k4, hu 5 (by omega) _ k5, g, e, k0, k1, k2, k3, k4, kt⟩
  have hbk : ∀ j, j < L0 → ∀ d0 d1 d2 d3 d4 g, A1 = some ⟨g, 0, none⟩ → TmP w1 (fun q => (C.Old q ∨ C.W.heap.size + 4 ≤ q) ∧ q ≠ g) (PT C.part j) (.agg #[d0, d1, d2, d3, d4]) → ∀ q, BkT w1 (PT C.part j) (.agg #[d0, d1, d2, d3, d4]) q → w7.heap[q]? = w1.heap[q]? := fun j _ d0 d1 d2 d3 d4 g eg kt q hq => by
    have hS := hq _ (TmP.mono (S' := fun q => ((C.Old q ∨ C.W.heap.size + 4 ≤ q) ∧ q ≠ g) ∧ q < w1.heap.size) (fun q h hl => ⟨h, hl⟩) _ _ kt)
    refine h17 q hS.2 (fun e => hS.1.2 (by rw [eg] at e; injection e with e; injection e with e _ _; exact e.symm)) ?_
    rintro rfl
    rcases hS.1.1 with h | h
    · exact hC.npp h
    · have := hC.pp; omega
  have ht6 : TmP w7 (fun q => C.Old q ∨ (w1.heap.size ≤ q ∧ q ≠ g6)) (PT C.part L0) (.agg #[c0, c1, c2, c3, c4]) := by
    have h5 : TmP w5 (fun q => (C.Old q ∨ w1.heap.size ≤ q) ∧ q < w5.heap.size) (PT C.part L0) (.agg #[c0, c1, c2, c3, c4]) := TmP.mono (fun q h hl => ⟨h, hl⟩) _ _ ht
    have hne : ∀ q, C.Old q ∨ w1.heap.size ≤ q → q < w5.heap.size → A1 ≠ some ⟨q, 0, none⟩ ∧ q ≠ C.pp ∧ (w1.heap.size ≤ q → q ≠ g6) := fun q hq hl => by
      refine ⟨fun e => ?_, ?_, fun hq1 => ?_⟩
      · have hh := hold q e
        rcases hq with h | h
        · have := hC.old q h; omega
        · omega
      · rintro rfl
        rcases hq with h | h
        · exact hC.npp h
        · have := hC.pp; omega
      · rcases hat with h | h
        · have hh := hold g6 (hown1 _ h); omega
        · omega
    exact TmP.mono (fun q hq _ => hq.1.elim .inl (fun h => .inr ⟨h, (hne q hq.1 hq.2).2.2 h⟩)) _ _ (TmP.keep (fun p hp => World.cell?_of_block (w := w5) ((h67 _ (hne _ hp.1 hp.2).2.1).trans (hgr.block _ hp.2 (fun e => (hne _ hp.1 hp.2).1 (hown1 _ e.symm))))) _ _ h5)
  have hP7 : C.Pts (L0 + 1) w7 := by
    refine ⟨_, _, hv7, hf7, ho7, fun g c e j hj => ?_⟩
    injection e with e _ _
    injection e with e
    injection e with e _ _
    subst e
    by_cases hjl : j < L0
    · obtain ⟨d0, d1, d2, d3, d4, u0, u1, u2, u3, u4, u5, g, eg, k0, k1, k2, k3, k4, kt⟩ := hel1 j hjl
      have hl : ∀ i, i < 6 → j * 6 + i < us.length := fun i hi => by omega
      have happ : ∀ i (hi : i < 6) (x : Value), us[j * 6 + i]? = some x → w7.cell? ⟨g6, j * 6 + i, none⟩ = some x := fun i hi x hx => hcell _ _ (by rw [List.getElem?_append_left (hl i hi)]; exact hx)
      refine ⟨d0, d1, d2, d3, d4, happ 0 (by omega) _ u0, happ 1 (by omega) _ u1, happ 2 (by omega) _ u2, happ 3 (by omega) _ u3, happ 4 (by omega) _ u4, happ 5 (by omega) _ u5, TmP.mono (fun q hq _ => ?_) _ _ (BkT.keep kt (hbk j hjl d0 d1 d2 d3 d4 g eg kt))⟩
      have hS := hq _ (TmP.mono (S' := fun q => ((C.Old q ∨ C.W.heap.size + 4 ≤ q) ∧ q ≠ g) ∧ q < w1.heap.size) (fun q h hl => ⟨h, hl⟩) _ _ kt)
      refine ⟨hS.1.1, ?_⟩
      rcases hg6' with h | h
      · rw [eg] at h; injection h with h; injection h with h _ _; rw [← h]; exact hS.1.2
      · have := hS.2; omega
    · obtain rfl : j = L0 := by omega
      have hnew : ∀ i (hi : i < 6) (x : Value), [c0, c1, c2, c3, c4, Value.bool (EX C.part j)][i]? = some x → w7.cell? ⟨g6, j * 6 + i, none⟩ = some x := fun i hi x hx => hcell _ _ (by rw [List.getElem?_append_right (by omega), hul, Nat.add_sub_cancel_left]; exact hx)
      exact ⟨c0, c1, c2, c3, c4, hnew 0 (by omega) _ rfl, hnew 1 (by omega) _ rfl, hnew 2 (by omega) _ rfl, hnew 3 (by omega) _ rfl, hnew 4 (by omega) _ rfl, hnew 5 (by omega) _ rfl, TmP.mono (fun q hq _ => ⟨hq.elim .inl (fun h => .inr (by omega)), by
        rintro rfl
        rcases hq with h | h
        · have := hC.old _ h; omega
        · exact h.2 rfl⟩) _ _ ht6⟩
  have hmu : ∀ q, C.M w7 q → C.M w1 q ∨ w1.heap.size ≤ q := by
    rintro q (rfl | rfl | rfl | ⟨g, len, cap, hgg, hq⟩)
    · exact .inl (.inl rfl)
    · exact .inl (.inr (.inl rfl))
    · exact .inl (.inr (.inr (.inl rfl)))
    · rw [hv7] at hgg
      cases hgg
      rcases hq with rfl | ⟨hno, j, e0, e1, e2, e3, e4, hj, m0, m1, m2, m3, m4, hb'⟩
      · rcases hg6' with h | h
        · exact .inl (.inr (.inr (.inr ⟨_, L0, cc, by rw [hv, h], .inl rfl⟩)))
        · exact .inr h
      · obtain ⟨b0, b1, b2, b3, b4, n0, n1, n2, n3, n4, _, nt⟩ := (hP7.blk hv7).2.2.2 j hj
        rw [m0] at n0
        rw [m1] at n1
        rw [m2] at n2
        rw [m3] at n3
        rw [m4] at n4
        cases n0
        cases n1
        cases n2
        cases n3
        cases n4
        by_cases hjl : j < L0
        · obtain ⟨d0, d1, d2, d3, d4, u0, u1, u2, u3, u4, u5, g, eg, k0, k1, k2, k3, k4, kt⟩ := hel1 j hjl
          have hl : ∀ i, i < 6 → j * 6 + i < us.length := fun i hi => by omega
          have happ : ∀ i (hi : i < 6) (x : Value), us[j * 6 + i]? = some x → w7.cell? ⟨g6, j * 6 + i, none⟩ = some x := fun i hi x hx => hcell _ _ (by rw [List.getElem?_append_left (hl i hi)]; exact hx)
          have a0 := happ 0 (by omega) _ u0
          have a1 := happ 1 (by omega) _ u1
          have a2 := happ 2 (by omega) _ u2
          have a3 := happ 3 (by omega) _ u3
          have a4 := happ 4 (by omega) _ u4
          rw [Nat.add_zero, m0] at a0
          rw [m1] at a1
          rw [m2] at a2
          rw [m3] at a3
          rw [m4] at a4
          cases a0
          cases a1
          cases a2
          cases a3
          cases a4
          exact .inl (.inr (.inr (.inr ⟨g, L0, cc, by rw [hv, eg], .inr ⟨hno, j, _, _, _, _, _, hjl, k0, k1, k2, k3, k4, BkT.back kt (hbk j hjl _ _ _ _ _ g eg kt) hb'⟩⟩)))
        · obtain rfl : j = L0 := by omega
          have hnew : ∀ i (hi : i < 6) (x : Value), [c0, c1, c2, c3, c4, Value.bool (EX C.part j)][i]? = some x → w7.cell? ⟨g6, j * 6 + i, none⟩ = some x := fun i hi x hx => hcell _ _ (by rw [List.getElem?_append_right (by omega), hul, Nat.add_sub_cancel_left]; exact hx)
          have a0 := hnew 0 (by omega) _ rfl
          have a1 := hnew 1 (by omega) _ rfl
          have a2 := hnew 2 (by omega) _ rfl
          have a3 := hnew 3 (by omega) _ rfl
          have a4 := hnew 4 (by omega) _ rfl
          rw [Nat.add_zero, m0] at a0
          rw [m1] at a1
          rw [m2] at a2
          rw [m3] at a3
          rw [m4] at a4
          cases a0
          cases a1
          cases a2
          cases a3
          cases a4
          exact .inr ((hb' _ ht6).resolve_left hno).1
  refine ⟨⟨?_, ?_, ?_, by omega, fun q hq hm => ?_, hmu⟩, ⟨(World.cell?_of_block (w := w1) (a := ⟨C.pb, 0, none⟩) kb).trans h1.1, (World.cell?_of_block (w := w1) (a := ⟨C.pb, 1, none⟩) kb).trans h1.2.1, (World.frozen?_of_block (w := w1) (a := ⟨C.pb, 0, none⟩) kb).trans h1.2.2.1, (World.frozen?_of_block (w := w1) (a := ⟨C.pb, 1, none⟩) kb).trans h1.2.2.2⟩, ⟨(World.cell?_of_block (w := w1) (a := ⟨C.pf, 0, none⟩) kf).trans h2.1, (World.frozen?_of_block (w := w1) (a := ⟨C.pf, 0, none⟩) kf).trans h2.2⟩, by omega, fun q hq => (h17 q (by have := hC.old q hq; omega) (hnA q (by have := hC.old q hq; omega)) (by rintro rfl; exact hC.npp hq)).trans (h4 q hq), L0 + 1, hdL, hP7⟩
  · rw [← hw7]; exact hgr.os.trans hb.os
  · rw [← hw7]; exact hgr.tape.trans hb.tape
  · rw [← hw7]; exact hgr.output.trans hb.output
  · exact h17 q hq (fun e => hm (.inr (.inr (.inr ⟨q, L0, cc, by rw [hv, e], .inl rfl⟩)))) (fun e => hm (.inr (.inr (.inl e))))
end AbC
end Go.Proofs.YtobaeeobfcffoaaDoor
