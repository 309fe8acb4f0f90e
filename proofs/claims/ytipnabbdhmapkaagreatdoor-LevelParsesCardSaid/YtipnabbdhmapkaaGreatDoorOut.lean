/- A variable of type Level whose list is memory of the call's own. -/
import Derived.Test.YtipnabbdhmapkaaGreatDoorPlus
import Derived.Test.YtipnabbdhmapkaaGreatDoorRow
import Derived.Deep.RegionLaw
import Derived.Maps.AppendAt
namespace Go.Proofs.YtipnabbdhmapkaaGreatDoor
open Go.RowKit

/-- Block tb is a variable that holds the level (c, vs); its list v is memory of the call's own, from block tb + 1 on. -/
structure OX (w : World) (tb : Nat) (c : Int) (vs : List (Int × Int)) (v : Value) : Prop where
  cell : w.heap[tb]? = some (.cells #[.int .i64 c, v] 24 (0, 0))
  own : Own2 w (tb + 1) v vs
namespace OX
variable {w w' : World} {tb : Nat} {c : Int} {vs : List (Int × Int)} {v : Value}
theorem lt (h : OX w tb c vs v) : tb < w.heap.size := (Array.getElem?_eq_some_iff.1 h.cell).1
theorem c0 (h : OX w tb c vs v) : w.cell? ⟨tb, 0, none⟩ = some (.int .i64 c) := by simp [World.cell?, h.cell]
theorem c1 (h : OX w tb c vs v) : w.cell? ⟨tb, 1, none⟩ = some v := by simp [World.cell?, h.cell]
theorem fr (h : OX w tb c vs v) (o : Nat) : w.frozen? ⟨tb, o, none⟩ = false := by simp [World.frozen?, h.cell]
theorem below (h : OX w tb c vs v) (hb : Below w.heap.size w w') : OX w' tb c vs v :=
  ⟨(hb.block tb h.lt).trans h.cell, World.ownsRow.kept h.own (row := none) ⟨hb.os, hb.tape, hb.output, hb.size, fun i hi _ => hb.block i hi⟩ (by cases v.ownBlock <;> simp)⟩
theorem drew (h : OX w tb c vs v) : OX w.drew tb c vs v := ⟨h.cell, h.own⟩
theorem drewN (h : OX w tb c vs v) (n : Nat) : OX (w.drewN n) tb c vs v := ⟨h.cell, h.own⟩
theorem alloc (h : OX w tb c vs v) (o : Obj) : OX (w.alloc o) tb c vs v := ⟨(Below.heap_alloc _ _ _ h.lt).trans h.cell, World.ownsRow.alloc h.own o⟩
theorem ne (h : OX w tb c vs v) : some tb ≠ v.ownBlock := fun e => by have := World.ownsRow.lt h.own tb e.symm; omega
theorem grown (h : OX w tb c vs v) (hg : w.grownBy w' v.ownBlock) : (w'.cell? ⟨tb, 0, none⟩ = some (.int .i64 c) ∧ w'.cell? ⟨tb, 1, none⟩ = some v) ∧ (∀ o, w'.frozen? ⟨tb, o, none⟩ = false) := by
  have e1 : w'.heap[tb]? = some (.cells #[.int .i64 c, v] 24 (0, 0)) := (hg.block tb h.lt h.ne).trans h.cell
  exact ⟨⟨by simp [World.cell?, e1], by simp [World.cell?, e1]⟩, fun o => by simp [World.frozen?, e1]⟩
/-- A store into the constant. -/
theorem setC (h : OX w tb c vs v) (d : Int) : OX (w.setCell ⟨tb, 0, none⟩ (.int .i64 d)) tb d vs v := by
  refine ⟨by rw [heap_setCell_same w _ 0 _ _ _ h.cell]; rfl, ?_⟩
  exact World.ownsRow.kept h.own (row := some tb) ⟨rfl, rfl, rfl, by simp [World.setCell], fun i _ hne => Below.heap_setCell w ⟨tb, 0, none⟩ _ i (fun e => hne (by rw [e]))⟩ (by
    cases hob : v.ownBlock with
    | none => exact .inl rfl
    | some j => exact .inr (by have := World.ownsRow.lt h.own j hob; intro e; cases e; omega))
/-- An append, and the store behind it. -/
theorem push (h : OX w tb c vs v) {v' : Value} {p : Int × Int} (hg : w.grownBy w' v.ownBlock) (ho : w'.ownsRow (tb + 1) 69 2 v' (vs.length + 1) (flat vs ++ [.int .i64 p.1, .int .i64 p.2])) : OX (w'.setCell ⟨tb, 1, none⟩ v') tb c (vs ++ [p]) v' := by
  have e1 : w'.heap[tb]? = some (.cells #[.int .i64 c, v] 24 (0, 0)) := (hg.block tb h.lt h.ne).trans h.cell
  refine ⟨by rw [heap_setCell_same w' _ 1 _ _ v' e1]; rfl, ?_⟩
  unfold Own2
  rw [List.length_append, flat_append]
  refine World.ownsRow.kept ho (row := some tb) ⟨rfl, rfl, rfl, by simp [World.setCell], fun i _ hne => Below.heap_setCell w' ⟨tb, 1, none⟩ _ i (fun e => hne (by rw [e]))⟩ ?_
  cases hob : v'.ownBlock with
  | none => exact .inl rfl
  | some j => exact .inr (by have := World.ownsRow.lt ho j hob; intro e; cases e; omega)
theorem start (w : World) (c : Int) : OX (w.alloc (.cells #[.int .i64 c, .slice none 0 0] 24)) w.heap.size c [] (.slice none 0 0) :=
  ⟨by show (w.heap.push _)[w.heap.size]? = _; simp, World.ownsRow_nil _ _ _ _⟩
/-- The level as a value. -/
theorem va (h : OX w tb c vs v) (hl : vs.length * 16 ≤ 140737488355328) : ∃ A cap, v = .slice A vs.length cap ∧ VA w w.heap.size A vs ∧ (∀ b off, 0 < vs.length → A = some ⟨b, off, none⟩ → tb < b) := by
  obtain ⟨A, cap, rfl⟩ := Own2.slice h.own
  refine ⟨A, cap, rfl, Own2.va h.own hl, fun b off hn e => ?_⟩
  obtain ⟨g, e', hg, _⟩ := Own2.at_ h.own hn
  rw [e] at e'
  cases e'
  omega
end OX
end Go.Proofs.YtipnabbdhmapkaaGreatDoor
