/- The reference's shift on memory: kids that are done. -/
import Derived.Test.YtobaeeobfcffoaaDoorRsf
import Derived.Test.YtobaeeobfcffoaaDoorAwk
import Derived.Deep.AppendLies
namespace Go.Proofs.YtobaeeobfcffoaaDoor
open Go.RowKit
/-- Cells that read as terms, five for each. -/
def RdL (w : World) (S : Nat → Prop) : List Tm → List Value → Prop
  | [], us => us = []
  | t :: r, us => ∃ c0 c1 c2 c3 c4 us', us = c0 :: c1 :: c2 :: c3 :: c4 :: us' ∧ TmP w S t (.agg #[c0, c1, c2, c3, c4]) ∧ RdL w S r us'
theorem RdL.snoc {w : World} {S : Nat → Prop} : ∀ {ts : List Tm} {us : List Value} {t : Tm} {c0 c1 c2 c3 c4 : Value}, RdL w S ts us → TmP w S t (.agg #[c0, c1, c2, c3, c4]) → RdL w S (ts ++ [t]) (us ++ [c0, c1, c2, c3, c4])
  | [], us, t, c0, c1, c2, c3, c4, h, ht => by
    have h : us = [] := h
    subst h
    exact ⟨c0, c1, c2, c3, c4, [], rfl, ht, rfl⟩
  | a :: r, us, t, c0, c1, c2, c3, c4, h, ht => by
    obtain ⟨d0, d1, d2, d3, d4, us', rfl, ha, hr⟩ := h
    exact ⟨d0, d1, d2, d3, d4, us' ++ [c0, c1, c2, c3, c4], rfl, ha, RdL.snoc hr ht⟩
theorem RdL.keep {w w' : World} {S S' : Nat → Prop} (hk : ∀ p : Addr, S p.block → p.block < w.heap.size → w'.cell? p = w.cell? p) (hS : ∀ q, S q → q < w.heap.size → S' q) : ∀ {ts : List Tm} {us : List Value}, RdL w S ts us → RdL w' S' ts us
  | [], _, h => h
  | a :: r, _, h => by
    obtain ⟨d0, d1, d2, d3, d4, us', rfl, ha, hr⟩ := h
    exact ⟨d0, d1, d2, d3, d4, us', rfl, TmP.mono (fun q h _ => hS q h.1 h.2) _ _ (TmP.keep (S := fun q => S q ∧ q < w.heap.size) (fun p hp => hk p hp.1 hp.2) _ _ (TmP.mono (fun q h hl => ⟨h, hl⟩) _ _ ha)), RdL.keep hk hS hr⟩
theorem RdL.ksP {w : World} {S : Nat → Prop} {g : Nat} : ∀ {ts : List Tm} {us : List Value} {off : Nat}, RdL w S ts us → (∀ j u, us[j]? = some u → w.cell? ⟨g, off + j, none⟩ = some u) → KsP w S g off ts
  | [], _, _, _, _ => by rw [KsP]; trivial
  | a :: r, _, off, h, hc => by
    obtain ⟨d0, d1, d2, d3, d4, us', rfl, ha, hr⟩ := h
    rw [KsP]
    exact ⟨⟨d0, d1, d2, d3, d4, hc 0 _ rfl, hc 1 _ rfl, hc 2 _ rfl, hc 3 _ rfl, hc 4 _ rfl, ha⟩, RdL.ksP hr (fun j u hu => by rw [Nat.add_assoc, Nat.add_comm 5 j]; exact hc (j + 5) u hu)⟩
theorem B5.kp {b pw : Nat} {c0 c1 c2 c3 c4 : Value} {w w' : World} (h : B5 b c0 c1 c2 c3 c4 w) (hk : Kp (MP pw) w w') (hb : b ≠ pw) : B5 b c0 c1 c2 c3 c4 w' :=
  ⟨(hk.cell (p := ⟨b, 0, none⟩) h.lt hb).trans h.x0, (hk.cell (p := ⟨b, 1, none⟩) h.lt hb).trans h.x1, (hk.cell (p := ⟨b, 2, none⟩) h.lt hb).trans h.x2, (hk.cell (p := ⟨b, 3, none⟩) h.lt hb).trans h.x3, (hk.cell (p := ⟨b, 4, none⟩) h.lt hb).trans h.x4, (hk.frozen (p := ⟨b, 0, none⟩) h.lt hb).trans h.f0, (hk.frozen (p := ⟨b, 1, none⟩) h.lt hb).trans h.f1, (hk.frozen (p := ⟨b, 2, none⟩) h.lt hb).trans h.f2, (hk.frozen (p := ⟨b, 3, none⟩) h.lt hb).trans h.f3, (hk.frozen (p := ⟨b, 4, none⟩) h.lt hb).trans h.f4⟩
theorem tmP_kp {pw : Nat} {S : Nat → Prop} {w w' : World} {t : Tm} {v : Value} (h : TmP w S t v) (hk : Kp (MP pw) w w') (hS : ∀ q, S q → q ≠ pw) : TmP w' S t v :=
  TmP.mono (fun _ h _ => h.1) _ _ (TmP.keep (S := fun q => S q ∧ q < w.heap.size) (fun _ hp => hk.cell hp.2 (hS _ hp.1)) _ _ (TmP.mono (fun _ h hl => ⟨h, hl⟩) _ _ h))
theorem ownsRow_kp {pw base size n : Nat} {e : TypeId} {v : Value} {xs : List Value} {w w' : World} (h : w.ownsRow base e size v n xs) (hk : Kp (MP pw) w w') (hp : pw < base) : w'.ownsRow base e size v n xs :=
  ⟨h.1, h.2.imp id fun ⟨g, cap, cur, hv, hg, hh, r⟩ => ⟨g, cap, cur, hv, hg, (hk.block g (Array.getElem?_eq_some_iff.1 hh).1 (by show g ≠ pw; omega)).trans hh, r⟩⟩
/-- What the loop over the kids keeps. -/
structure RS (w0 : World) (pw B : Nat) (k i : Int) (nm : ByteArray) (AL : Option Addr) (nl cl : Nat) (AK : Option Addr) (nk ck : Nat) (e n : Int) (ts : List Tm) (us : List Value) (v : Value) (w : World) : Prop where
  bx : B5 w0.heap.size (.int .i64 k) (.int .i64 i) (.string nm) (.slice AL nl cl) (.slice AK nk ck) w
  br : B5 (w0.heap.size + 1) (.int .i64 0) (.int .i64 0) (.string ⟨#[]⟩) (.slice none 0 0) (.slice none 0 0) w
  kp : Kp (MP pw) w0 w
  wk : WkS pw e n w
  own : w.ownsRow (w0.heap.size + 2) 25 5 v ts.length us
  rd : RdL w (fun q => (q < B ∨ w0.heap.size + 2 ≤ q) ∧ q ≠ pw ∧ v.ownBlock ≠ some q) ts us
namespace RS
variable {w0 : World} {pw B : Nat} {k i : Int} {nm : ByteArray} {AL : Option Addr} {nl cl : Nat} {AK : Option Addr} {nk ck : Nat} {e n : Int} {ts : List Tm} {us : List Value} {v : Value} {w w' : World}
theorem next (h : RS w0 pw B k i nm AL nl cl AK nk ck e n ts us v w) (hp : pw < w0.heap.size) (hk : Kp (MP pw) w w') {e' n' : Int} (hw : WkS pw e' n' w') : RS w0 pw B k i nm AL nl cl AK nk ck e' n' ts us v w' :=
  ⟨h.bx.kp hk (by omega), h.br.kp hk (by omega), h.kp.trans hk, hw, ownsRow_kp h.own hk (by omega), h.rd.keep (fun p hp' hl => hk.cell hl hp'.2.1) (fun q hq _ => hq)⟩
/-- The list grown by a term. -/
theorem grow (h : RS w0 pw B k i nm AL nl cl AK nk ck e n ts us v w) (hp : pw < w0.heap.size) (_ : B ≤ w0.heap.size) {t : Tm} {c0 c1 c2 c3 c4 : Value} (ht : TmP w (fun q => (q < B ∨ w0.heap.size + 2 ≤ q) ∧ q ≠ pw ∧ v.ownBlock ≠ some q) t (.agg #[c0, c1, c2, c3, c4])) {w1 w2 : World} (hb : Below w.heap.size w w1) {g cap : Nat}
    (hown : w2.ownsRow (w0.heap.size + 2) 25 5 (.slice (some ⟨g, 0, none⟩) (ts.length + 1) cap) (ts.length + 1) (us ++ [c0, c1, c2, c3, c4])) (hgr : w1.grownBy w2 v.ownBlock) (hat : v.ownBlock = some g ∨ g = w1.heap.size) :
    RS w0 pw B k i nm AL nl cl AK nk ck e n (ts ++ [t]) (us ++ [c0, c1, c2, c3, c4]) (.slice (some ⟨g, 0, none⟩) (ts.length + 1) cap) w2 ∧ Kp (MP pw) w0 w2 := by
  have hvb : ∀ q, v.ownBlock = some q → w0.heap.size + 2 ≤ q := fun q hq => by
    rcases h.own.2 with ⟨rfl, _⟩ | ⟨g', cap', cur, rfl, hb', _⟩
    · simp [Value.ownBlock] at hq
    · simp [Value.ownBlock] at hq; omega
  have hs12 := hgr.size
  have hs01 := hb.size
  have hblk : ∀ q, q < w.heap.size → v.ownBlock ≠ some q → w2.heap[q]? = w.heap[q]? := fun q hq hne => (hgr.block q (by omega) (fun e => hne e.symm)).trans (hb.block q hq)
  have hblk0 : ∀ q, q < w.heap.size → q < w0.heap.size + 2 → w2.heap[q]? = w.heap[q]? := fun q hq hl => hblk q hq (fun e => by have := hvb q e; omega)
  have hkp : Kp (MP pw) w0 w2 := ⟨(hgr.os.trans hb.os).trans h.kp.os, (hgr.tape.trans hb.tape).trans h.kp.tape, (hgr.output.trans hb.output).trans h.kp.output, by have := h.kp.size; omega, fun q hq hm => (hblk0 q (by have := h.kp.size; omega) (by omega)).trans (h.kp.block q hq hm), fun q hq => .inl hq⟩
  have hb5 : ∀ {b : Nat} {d0 d1 d2 d3 d4 : Value}, B5 b d0 d1 d2 d3 d4 w → b < w0.heap.size + 2 → B5 b d0 d1 d2 d3 d4 w2 := fun {b d0 d1 d2 d3 d4} hx hl => by
    have hk := hblk0 b hx.lt hl
    exact ⟨(World.cell?_of_block (w := w) (a := ⟨b, 0, none⟩) hk).trans hx.x0, (World.cell?_of_block (w := w) (a := ⟨b, 1, none⟩) hk).trans hx.x1, (World.cell?_of_block (w := w) (a := ⟨b, 2, none⟩) hk).trans hx.x2, (World.cell?_of_block (w := w) (a := ⟨b, 3, none⟩) hk).trans hx.x3, (World.cell?_of_block (w := w) (a := ⟨b, 4, none⟩) hk).trans hx.x4, (World.frozen?_of_block (w := w) (a := ⟨b, 0, none⟩) hk).trans hx.f0, (World.frozen?_of_block (w := w) (a := ⟨b, 1, none⟩) hk).trans hx.f1, (World.frozen?_of_block (w := w) (a := ⟨b, 2, none⟩) hk).trans hx.f2, (World.frozen?_of_block (w := w) (a := ⟨b, 3, none⟩) hk).trans hx.f3, (World.frozen?_of_block (w := w) (a := ⟨b, 4, none⟩) hk).trans hx.f4⟩
  refine ⟨⟨hb5 h.bx (by omega), hb5 h.br (by omega), hkp, h.wk.kp (hblk0 pw h.wk.lt (by omega)), by rw [List.length_append]; exact hown, ?_⟩, hkp⟩
  refine (h.rd.snoc ht).keep (fun p hp' hl => World.cell?_of_block (w := w) (hblk _ hl hp'.2.2)) (fun q hq hl => ⟨hq.1, hq.2.1, ?_⟩)
  intro e
  simp only [Value.ownBlock, Option.some.injEq] at e
  rcases hat with h' | h'
  · exact hq.2.2 (by rw [h', e])
  · omega
end RS
end Go.Proofs.YtobaeeobfcffoaaDoor
