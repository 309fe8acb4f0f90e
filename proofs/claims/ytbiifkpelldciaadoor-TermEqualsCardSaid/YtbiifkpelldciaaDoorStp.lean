/- The stack of Same of the program: pairs of lists of kids. -/
import Derived.Test.YtbiifkpelldciaaDoorRsm
import Derived.WalkSmall
import Derived.Deep.AppendLies
import Derived.Deep.LoopGhost
namespace Go.Proofs.YtbiifkpelldciaaDoor
open Go.RowKit

/-- Two lists of terms on memory. -/
structure Pr where
  A : Option Addr
  ca : Nat
  l : List Tm
  A' : Option Addr
  ca' : Nat
  l' : List Tm
def Pr.cells (p : Pr) : List Value := [.slice p.A p.l.length p.ca, .slice p.A' p.l'.length p.ca']
def flatP (st : List Pr) : List Value := st.flatMap Pr.cells
theorem flatP_append (a b : List Pr) : flatP (a ++ b) = flatP a ++ flatP b := List.flatMap_append
theorem flatP_length (st : List Pr) : (flatP st).length = st.length * 2 := by
  induction st with
  | nil => rfl
  | cons a r ih =>
    simp only [flatP, List.flatMap_cons, List.length_append, List.length_cons] at ih ⊢
    rw [ih]
    simp [Pr.cells]
    omega
/-- A list of terms on memory. -/
def LK (w : World) (B : Nat) (A : Option Addr) (l : List Tm) : Prop := l.length * 80 ≤ 140737488355328 ∧ (0 < l.length → ∃ b off, A = some ⟨b, off, none⟩ ∧ b < B ∧ KsV w B b off l)
def Pr.ok (w : World) (B : Nat) (p : Pr) : Prop := p.l.length = p.l'.length ∧ LK w B p.A p.l ∧ LK w B p.A' p.l'
def StkP (w : World) (base : Nat) (v : Value) (st : List Pr) : Prop := w.ownsRow base 60 2 v st.length (flatP st)
def allS (st : List Pr) : Bool := st.all fun p => sameL p.l p.l'
theorem allS_snoc (st : List Pr) (p : Pr) : allS (st ++ [p]) = (allS st && sameL p.l p.l') := by simp [allS]
def wtS : List Pr → Nat
  | [] => 0
  | p :: r => szL p.l + 1 + wtS r
theorem wtS_snoc (st : List Pr) (p : Pr) : wtS (st ++ [p]) = wtS st + (szL p.l + 1) := by
  induction st with
  | nil => simp [wtS]
  | cons a r ih => simp only [List.cons_append, wtS, ih]; omega
theorem wtS_len (st : List Pr) : st.length ≤ wtS st := by
  induction st with
  | nil => simp
  | cons a r ih => simp only [List.length_cons, wtS]; omega
theorem sameT_nd : ∀ (a b : Tm), sameT a b = (ndEq a b && sameL a.kids b.kids)
  | .mk k i nm ls ks, .mk k' i' nm' ls' ks' => by
    rw [sameT_mk, ndEq_mk]
    simp only [Tm.kids]
    generalize decide (k = k') = d1
    generalize decide (i = i') = d2
    generalize decide (nm = nm') = d3
    generalize decide (ls = ls') = d4
    generalize decide (ks.length = ks'.length) = d5
    cases d1 <;> cases d2 <;> cases d3 <;> cases d4 <;> cases d5 <;> simp
theorem ndEq_len {a b : Tm} (h : ndEq a b = true) : a.kids.length = b.kids.length := by
  cases a
  cases b
  rw [ndEq_mk] at h
  simp only [Bool.and_eq_true, decide_eq_true_eq] at h
  exact h.2.2.2.1
theorem TmV.lk {w : World} {B : Nat} {t : Tm} {k i : Int} {nm : ByteArray} {AL : Option Addr} {nl cl n : Nat} {AK : Option Addr} {ck : Nat} (h : TmV w B t (.agg #[.int .i64 k, .int .i64 i, .string nm, .slice AL nl cl, .slice AK n ck])) : LK w B AK t.kids := by
  cases t with
  | mk k' i' nm' ls ks =>
    rw [TmV] at h
    obtain ⟨AL', cl', AK', ck', hv, _, hz, hk⟩ := h
    simp only [Value.agg.injEq, Array.mk.injEq, List.cons.injEq, Value.slice.injEq, and_true] at hv
    obtain ⟨_, _, _, _, rfl, _⟩ := hv
    exact ⟨hz, hk⟩
theorem StkP.top {w : World} {base g c : Nat} {st : List Pr} {x : Pr} (h : StkP w base (.slice (some ⟨g, 0, none⟩) (st.length + 1) c) (st ++ [x])) :
    w.cell? ⟨g, st.length * 2, none⟩ = some (.slice x.A x.l.length x.ca) ∧ w.cell? ⟨g, st.length * 2 + 1, none⟩ = some (.slice x.A' x.l'.length x.ca') := by
  unfold StkP at h
  rw [List.length_append, List.length_singleton] at h
  have e : ∀ j, j < 2 → (flatP (st ++ [x]))[st.length * 2 + j]? = x.cells[j]? := fun j hj => by
    rw [flatP_append, List.getElem?_append_right (by rw [flatP_length]; omega), flatP_length, show st.length * 2 + j - st.length * 2 = j by omega]
    simp [flatP]
  exact ⟨(h.cellAt (st.length * 2) (by omega)).trans (e 0 (by omega)), (h.cellAt (st.length * 2 + 1) (by omega)).trans (e 1 (by omega))⟩
theorem StkP.pop {w : World} {base g c : Nat} {st : List Pr} {x : Pr} (h : StkP w base (.slice (some ⟨g, 0, none⟩) (st.length + 1) c) (st ++ [x])) : StkP w base (.slice (some ⟨g, 0, none⟩) st.length c) st := by
  unfold StkP at h ⊢
  rw [flatP_append, List.length_append, List.length_singleton] at h
  exact ownsRow_pop (flatP_length st) h
theorem StkP.below {w w' : World} {base : Nat} {v : Value} {st : List Pr} (h : StkP w base v st) (hb : Below w.heap.size w w') : StkP w' base v st :=
  World.ownsRow.kept h (row := none) ⟨hb.os, hb.tape, hb.output, hb.size, fun i hi _ => hb.block i hi⟩ (by cases v.ownBlock <;> simp)
theorem info_lists : (Tryd.prog.info? 60).map (fun i => (i.zero, i.size, i.bytes)) = some (some (.agg #[.slice none 0 0, .slice none 0 0]), 2, 48) := by kernel_rfl
theorem StkP.snoc {w : World} {base : Nat} {v : Value} {st : List Pr} {p : Pr} (h : w.ownsRow base 60 2 v (st.length + 1) (flatP st ++ [.slice p.A p.l.length p.ca, .slice p.A' p.l'.length p.ca'])) : StkP w base v (st ++ [p]) := by
  unfold StkP
  rw [List.length_append, flatP_append]
  simpa [flatP, Pr.cells] using h
end Go.Proofs.YtbiifkpelldciaaDoor
