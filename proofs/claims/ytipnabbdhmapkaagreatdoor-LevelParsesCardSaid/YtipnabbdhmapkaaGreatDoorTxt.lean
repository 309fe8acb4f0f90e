/- Text. -/
import Derived.Test.YtipnabbdhmapkaaGreatDoorTxa
import Derived.Test.YtipnabbdhmapkaaGreatDoorBwd
import Derived.Test.YtipnabbdhmapkaaGreatDoorVal
import Derived.Test.YtipnabbdhmapkaaGreatDoorRow
import Derived.Maps.AppendAt
import Derived.Deep.RegionLaw
namespace Go.Proofs.YtipnabbdhmapkaaGreatDoor
open Go.RowKit

theorem step_append_mine {P : Program} {ops : Array Oper} {o : Oper} {a : Act} {w : World} {K : Act → World → Prop} {Q : Exit → Act → World → Prop} {E : Prop}
    (hg : o.guard = none) (s x : Operand) (t : TypeId) (hop : o.op = Op.call { callee := Callee.builtin Builtin.append, args := #[s, x], argTypes := #[t, t] })
    (base : Nat) (e : TypeId) (i : TypeInfo) (z : Value) (size bytes : Nat) (ht : P.underlying t = some (.slice e)) (hi : P.info? e = some i) (hz : i.zero = some z)
    (hsize : i.size = size) (hby : i.bytes = bytes) (hzs : z.cells.size = size) (hsz : 0 < size)
    (v : Value) (n : Nat) (xs : List Value) (hs : a.eval s = v) (hown : w.ownsRow base e size v n xs)
    (ad : Addr) (m c : Nat) (news : List Value) (hx : a.eval x = .slice (some ad) m c) (hl : news.length = m * size) (hnews : ∀ j u, news[j]? = some u → w.cell? (ad.add j) = some u) (h1 : ∀ u ∈ news, u.oneCell' = true)
    (h63 : n + m ≤ maxLen) (hbytes : (n + m) * bytes ≤ 140737488355328) (hbase : base ≤ w.heap.size)
    (hK : ∀ v' w', w'.ownsRow base e size v' (n + m) (xs ++ news) → w.grownBy w' v.ownBlock → K (a.put o.dst v') w') :
    if Region.wanted o (yielded ops a.tmps) = true then Oper.wp P o a w K Q else E := by
  have hw : Region.wanted o (yielded ops a.tmps) = true := by simp [Region.wanted, hg]
  rw [if_pos hw]
  obtain ⟨v', w', hr, h2, h3, _⟩ := run_append_own (P := P) (w := w) base t o.type e i z size bytes ht hi hz hsize hby hzs hsz v n xs hown ad m c news hl hnews h1 h63 hbytes hbase
  unfold Oper.wp
  simp [execOp, hop, resolve, invoke, builtin, hs, hx, hr, Result.andThen]
  exact hK _ _ h2 h3

theorem info9 : (Tryz.prog.info? 9).map (fun i => (i.zero, i.size, i.bytes)) = some (some (.string ⟨#[]⟩), 1, 16) := by kernel_rfl
/-- The slice value v is memory of the call's own, from block base on, and holds the texts. -/
def OwnS (w : World) (base : Nat) (v : Value) (ts : List ByteArray) : Prop := w.ownsRow base 9 1 v ts.length (ts.map Value.string)
theorem ownS_one (ts : List ByteArray) : ∀ u ∈ ts.map Value.string, u.oneCell' = true := by
  intro u hu
  obtain ⟨t, _, rfl⟩ := List.mem_map.1 hu
  rfl
/-- Block tb is a cell that holds a slice of texts of the call's own. -/
structure TX (w : World) (tb : Nat) (ts : List ByteArray) (v : Value) : Prop where
  cell : w.heap[tb]? = some (.cells #[v] 90 (0, 0))
  own : OwnS w (tb + 1) v ts
namespace TX
variable {w w' : World} {tb : Nat} {ts : List ByteArray} {v : Value}
theorem lt (h : TX w tb ts v) : tb < w.heap.size := (Array.getElem?_eq_some_iff.1 h.cell).1
theorem c0 (h : TX w tb ts v) : w.cell? ⟨tb, 0, none⟩ = some v := by simp [World.cell?, h.cell]
theorem fr (h : TX w tb ts v) (o : Nat) : w.frozen? ⟨tb, o, none⟩ = false := by simp [World.frozen?, h.cell]
theorem below (h : TX w tb ts v) (hb : Below w.heap.size w w') : TX w' tb ts v :=
  ⟨(hb.block tb h.lt).trans h.cell, World.ownsRow.kept h.own (row := none) ⟨hb.os, hb.tape, hb.output, hb.size, fun i hi _ => hb.block i hi⟩ (by cases v.ownBlock <;> simp)⟩
theorem drew (h : TX w tb ts v) : TX w.drew tb ts v := ⟨h.cell, h.own⟩
theorem alloc (h : TX w tb ts v) (o : Obj) : TX (w.alloc o) tb ts v := ⟨(Below.heap_alloc _ _ _ h.lt).trans h.cell, World.ownsRow.alloc h.own o⟩
theorem grown (h : TX w tb ts v) (hg : w.grownBy w' v.ownBlock) : w'.cell? ⟨tb, 0, none⟩ = some v ∧ (∀ o, w'.frozen? ⟨tb, o, none⟩ = false) := by
  have hne : some tb ≠ v.ownBlock := fun e => by have := World.ownsRow.lt h.own tb e.symm; omega
  have e1 : w'.heap[tb]? = some (.cells #[v] 90 (0, 0)) := (hg.block tb h.lt hne).trans h.cell
  exact ⟨by simp [World.cell?, e1], fun o => by simp [World.frozen?, e1]⟩
/-- An append, and the store behind it. -/
theorem push (h : TX w tb ts v) {v' : Value} {t : ByteArray} (hg : w.grownBy w' v.ownBlock) (ho : w'.ownsRow (tb + 1) 9 1 v' (ts.length + 1) (ts.map Value.string ++ [.string t])) : TX (w'.setCell ⟨tb, 0, none⟩ v') tb (ts ++ [t]) v' := by
  have hne : some tb ≠ v.ownBlock := fun e => by have := World.ownsRow.lt h.own tb e.symm; omega
  have e1 : w'.heap[tb]? = some (.cells #[v] 90 (0, 0)) := (hg.block tb h.lt hne).trans h.cell
  refine ⟨by rw [heap_setCell_same w' _ 0 _ _ v' e1]; rfl, ?_⟩
  unfold OwnS
  rw [List.length_append, List.map_append]
  refine World.ownsRow.kept ho (row := some tb) ⟨rfl, rfl, rfl, by simp [World.setCell], fun i _ hne => Below.heap_setCell w' ⟨tb, 0, none⟩ _ i (fun e => hne (by rw [e]))⟩ ?_
  cases hob : v'.ownBlock with
  | none => exact .inl rfl
  | some j => exact .inr (by have := World.ownsRow.lt ho j hob; intro e; cases e; omega)
theorem start (w : World) : TX (w.alloc (.cells #[.slice none 0 0] 90)) w.heap.size [] (.slice none 0 0) :=
  ⟨by show (w.heap.push _)[w.heap.size]? = _; simp, World.ownsRow_nil _ _ _ _⟩
end TX
theorem cell_one_new (W : World) (a : Value) (t : TypeId) : ∀ j u, [a][j]? = some u → (W.alloc (.cells #[a] t)).cell? ((⟨W.heap.size, 0, none⟩ : Addr).add j) = some u := by
  intro j u hj
  rw [Addr.add_lit]
  rcases j with _ | j
  · simp at hj; subst hj; go_simp
  · simp at hj
end Go.Proofs.YtipnabbdhmapkaaGreatDoor
