/- Words on memory: a slice of pairs of ints that reads as a list. -/
import Derived.Test.YtobaeeobfcffoaaDoorProg
import Derived.WalkKit
import Derived.WalkSpells
import Derived.WalkLawsBesides
import Derived.BigQuiet
import Derived.Deep.QuietTactic
import Derived.Lib.Hide
namespace Go.Proofs.YtobaeeobfcffoaaDoor
open Go.RowKit

/-- The slice of pairs at address A reads, in w, as vs; its cells lie below block B. -/
def VA (w : World) (B : Nat) (A : Option Addr) (vs : List (Int × Int)) : Prop :=
  vs.length * 16 ≤ 140737488355328 ∧ (0 < vs.length → ∃ b off, A = some ⟨b, off, none⟩ ∧ b < B ∧
    ∀ j x y, vs[j]? = some (x, y) → w.cell? ⟨b, off + j * 2, none⟩ = some (.int .i64 x) ∧ w.cell? ⟨b, off + j * 2 + 1, none⟩ = some (.int .i64 y))

section
variable {w w' : World} {B B' : Nat} {A : Option Addr} {vs : List (Int × Int)}
theorem VA.nil : VA w B A [] := ⟨by simp, fun h => absurd h (by simp)⟩
theorem VA.len (h : VA w B A vs) : vs.length ≤ 8796093022208 := by have := h.1; omega
theorem VA.keep (h : VA w B A vs) (hk : ∀ p : Addr, p.block < B → w'.cell? p = w.cell? p) : VA w' B A vs :=
  ⟨h.1, fun hn => by
    obtain ⟨b, off, e, hb, hc⟩ := h.2 hn
    exact ⟨b, off, e, hb, fun j x y hj => ⟨(hk _ hb).trans (hc j x y hj).1, (hk _ hb).trans (hc j x y hj).2⟩⟩⟩
theorem VA.more (h : VA w B A vs) (hB : B ≤ B') : VA w B' A vs :=
  ⟨h.1, fun hn => by
    obtain ⟨b, off, e, hb, hc⟩ := h.2 hn
    exact ⟨b, off, e, by omega, hc⟩⟩
theorem VA.below (h : VA w B A vs) {B' : Nat} (hb : Below B' w w') (hB : B ≤ B') : VA w' B A vs := h.keep fun _ hp => hb.cell (by omega)
theorem VA.alloc (h : VA w B A vs) (hB : B ≤ w.heap.size) (o : Obj) : VA (w.alloc o) B A vs := h.keep fun p hp => World.cell?_alloc_lt w o p (by omega)
theorem VA.at_ (h : VA w B A vs) {k : Nat} (hk : k < vs.length) : ∃ b off x y, A = some ⟨b, off, none⟩ ∧ b < B ∧ vs[k]? = some (x, y) ∧
    w.cell? ⟨b, off + k * 2, none⟩ = some (.int .i64 x) ∧ w.cell? ⟨b, off + k * 2 + 1, none⟩ = some (.int .i64 y) := by
  obtain ⟨b, off, e, hb, hc⟩ := h.2 (by omega)
  have hg : vs[k]? = some (vs[k].1, vs[k].2) := List.getElem?_eq_getElem hk
  exact ⟨b, off, _, _, e, hb, hg, hc k _ _ hg⟩
end

theorem bcell {W w1 : World} (hb : Below W.heap.size W w1) : (∀ b o, b < W.heap.size → w1.cell? ⟨b, o, none⟩ = W.cell? ⟨b, o, none⟩) ∧ (∀ b o, b < W.heap.size → w1.frozen? ⟨b, o, none⟩ = W.frozen? ⟨b, o, none⟩) :=
  ⟨fun b o h => hb.cell (p := ⟨b, o, none⟩) h, fun b o h => hb.frozen (p := ⟨b, o, none⟩) h⟩
theorem Below.drewN' {B : Nat} {a w : World} (h : Below B a w) (n : Nat) : Below B a (w.drewN n) := ⟨h.os, h.tape, h.output, h.size, h.block⟩
theorem ret_int {k : IntKind} {a b : Int} (h : a = b) : Ending.returned (.int k a) = .returned (.int k b) := by rw [h]
theorem ret_bool {a b : Bool} (h : a = b) : Ending.returned (.bool a) = .returned (.bool b) := by rw [h]
end Go.Proofs.YtobaeeobfcffoaaDoor
