/- An append onto the iterator's stack: which block it lies in. -/
import Derived.Test.YtbiifkpelldciaaDoorNdx
import Derived.OwnWalkIn
namespace Go.Proofs.YtbiifkpelldciaaDoor
open Go.RowKit

theorem run_append_stk {P : Program} (w : World) (base : Nat) (t ty e : TypeId) (i : TypeInfo) (z : Value) (size bytes : Nat) (ht : P.underlying t = some (.slice e)) (hi : P.info? e = some i) (hz : i.zero = some z)
    (hsize : i.size = size) (hby : i.bytes = bytes) (hzs : z.cells.size = size) (hsz : 0 < size)
    (g k cap : Nat) (xs : List Value) (hown : w.ownsRow base e size (.slice (some ⟨g, 0, none⟩) k cap) k xs)
    (ad : Addr) (m c : Nat) (news : List Value) (hl : news.length = m * size) (hnews : ∀ j u, news[j]? = some u → w.cell? (ad.add j) = some u) (hone : ∀ u ∈ news, u.oneCell' = true)
    (h63 : k + m ≤ maxLen) (hbytes : (k + m) * bytes ≤ 140737488355328) (hbase : base ≤ w.heap.size) :
    ∃ g' cap' w', (Builtin.append_ #[t, t] ty #[.slice (some ⟨g, 0, none⟩) k cap, .slice (some ad) m c]).run P w = .ok (.slice (some ⟨g', 0, none⟩) (k + m) cap') w' ∧ (g' = g ∨ g' = w.heap.size) ∧
      w'.ownsRow base e size (.slice (some ⟨g', 0, none⟩) (k + m) cap') (k + m) (xs ++ news) ∧ w.grownBy w' (some g) := by
  obtain ⟨v', w', hr, h2, h3, _⟩ := run_append_own (P := P) w base t ty e i z size bytes ht hi hz hsize hby hzs hsz _ k xs hown ad m c news hl hnews hone h63 hbytes hbase
  subst hsize
  subst hby
  have hsmall : k + m ≤ 9223372036854775807 := by simp only [maxLen] at h63; omega
  by_cases hroom : k + m ≤ cap
  · rcases hown.2 with ⟨e0, _⟩ | ⟨g0, cap0, cur, e0, _, hg, _, _, hcs, _⟩
    · cases e0
    · cases e0
      have hq := run_append_room (P := P) w t ty e i ht hi g k cap cur hg ad m c news hl hnews hone hroom (by rw [hl, hcs, ← Nat.add_mul]; exact Nat.mul_le_mul_right _ hroom)
      rw [hq] at hr
      cases hr
      exact ⟨g, cap, _, hq, .inl rfl, h2, h3⟩
  · have hq := run_append_grow (P := P) w t ty e i z ht hi hz ⟨g, 0, none⟩ k cap xs hown.1 (hown.cells (g := g) rfl) ad m c news hl hnews (by omega) (by omega) (growslice_fits (by omega) hbytes)
    rw [hq] at hr
    cases hr
    exact ⟨w.heap.size, _, _, hq, .inr rfl, h2, h3⟩

theorem wpListIn_append_stk {F : Fence} {n : Nat} {P : Program} (w : World) {ops : Array Oper} {rest : List Oper} {o : Oper} {a : Act} {Q : Exit → Act → World → Prop}
    (hgd : o.guard = none) (s x : Operand) (t : TypeId) (hop : o.op = Op.call { callee := Callee.builtin Builtin.append, args := #[s, x], argTypes := #[t, t] })
    (base : Nat) (e : TypeId) (i : TypeInfo) (z : Value) (size bytes : Nat) (ht : P.underlying t = some (.slice e)) (hi : P.info? e = some i) (hz : i.zero = some z)
    (hsize : i.size = size) (hby : i.bytes = bytes) (hzs : z.cells.size = size) (hsz : 0 < size)
    (g k cap : Nat) (xs : List Value) (hs : a.eval s = .slice (some ⟨g, 0, none⟩) k cap) (hown : w.ownsRow base e size (.slice (some ⟨g, 0, none⟩) k cap) k xs)
    (ad : Addr) (m c : Nat) (news : List Value) (hx : a.eval x = .slice (some ad) m c) (hl : news.length = m * size) (hnews : ∀ j u, news[j]? = some u → w.cell? (ad.add j) = some u) (hone : ∀ u ∈ news, u.oneCell' = true)
    (h63 : k + m ≤ maxLen) (hbytes : (k + m) * bytes ≤ 140737488355328) (hbase : base ≤ w.heap.size)
    (hK : ∀ g' cap' w', (g' = g ∨ g' = w.heap.size) → w'.ownsRow base e size (.slice (some ⟨g', 0, none⟩) (k + m) cap') (k + m) (xs ++ news) → w.grownBy w' (some g) →
      wpListIn F n P ops Q rest (a.put o.dst (.slice (some ⟨g', 0, none⟩) (k + m) cap')) w') :
    wpListIn F n P ops Q (o :: rest) a w := by
  obtain ⟨g', cap', w', hr, h1, h2, h3⟩ := run_append_stk (P := P) w base t o.type e i z size bytes ht hi hz hsize hby hzs hsz g k cap xs hown ad m c news hl hnews hone h63 hbytes hbase
  refine wpListIn_plain hgd fun K hK' => ?_
  unfold Oper.wpIn
  refine ⟨by simp [Oper.about, hop, resolve, Target.leads, Sem.run_pure], ?_⟩
  rw [Oper.semAt_plain F _ _ (by rw [hop]; intro c hc'; cases hc')]
  simp [execOp, hop, resolve, invoke, builtin, hs, hx, hr, Result.andThen]
  exact hK' _ _ (hK g' cap' w' h1 h2 h3)

/-- In the inner loop: the stack, the set of the iterator's blocks, the node's own box. -/
structure KR (B0 n₀ Bt Bn g : Nat) (w : World) (J : (Nat → Prop) → List Nx → World → Prop) (X : Nat → Prop) (pre stk : List Nx) (c : Nat) (o : Obj) (wx : World) : Prop where
  stk : Stk wx B0 (.slice (some ⟨g, 0, none⟩) stk.length c) stk
  x : X g
  j : J X pre wx
  k : KAt n₀ Bt w wx
  box : wx.heap[Bn]? = some o
  ne : g ≠ Bn
  sz : B0 ≤ wx.heap.size
  b : n₀ ≤ B0 ∧ n₀ ≤ Bt ∧ Bt < B0
namespace KR
variable {B0 n₀ Bt Bn g c : Nat} {w : World} {J : (Nat → Prop) → List Nx → World → Prop} {X : Nat → Prop} {pre stk : List Nx} {o : Obj} {wx : World}
theorem lt (h : KR B0 n₀ Bt Bn g w J X pre stk c o wx) : g < wx.heap.size := (World.ownsRow.lt h.stk g rfl).2
theorem new (hJ : Lets J) (h : KR B0 n₀ Bt Bn g w J X pre stk c o wx) {wy : World} (hg : wx.grownBy wy none) : KR B0 n₀ Bt Bn g w J (fun r => X r ∨ (wx.heap.size ≤ r ∧ r < wy.heap.size)) pre stk c o wy where
  stk := World.ownsRow.kept h.stk hg (.inr (by simp [Value.ownBlock]))
  x := .inl h.x
  j := hJ _ _ _ _ none h.j hg (fun _ e => by cases e)
  k := h.k.trans (KAt.grown hg (by have := h.sz; have := h.b; omega) (by have := h.sz; have := h.b; omega) (fun _ e => by cases e))
  box := (hg.block Bn (Array.getElem?_eq_some_iff.1 h.box).1 (fun e => by cases e)).trans h.box
  ne := h.ne
  sz := Nat.le_trans h.sz hg.size
  b := h.b
theorem push (hJ : Lets J) (h : KR B0 n₀ Bt Bn g w J X pre stk c o wx) {wy : World} {g' c' : Nat} {y : Nx} (hg : wx.grownBy wy (some g)) (hg' : g' = g ∨ g' = wx.heap.size)
    (hown : wy.ownsRow B0 68 3 (.slice (some ⟨g', 0, none⟩) (stk.length + 1) c') (stk.length + 1) (flatN stk ++ y.cells)) :
    KR B0 n₀ Bt Bn g' w J (fun r => X r ∨ (wx.heap.size ≤ r ∧ r < wy.heap.size)) pre (stk ++ [y]) c' o wy where
  stk := by
    unfold Stk
    rw [List.length_append, List.length_singleton, flatN_append]
    have e : flatN [y] = y.cells := by simp [flatN]
    rw [e]
    exact hown
  x := by
    have := World.ownsRow.lt hown g' rfl
    rcases hg' with rfl | rfl
    · exact .inl h.x
    · exact .inr ⟨Nat.le_refl _, this.2⟩
  j := hJ _ _ _ _ (some g) h.j hg (fun r e => by cases e; exact h.x)
  k := h.k.trans (KAt.grown hg (by have := h.sz; have := h.b; omega) (by have := h.sz; have := h.b; omega) (fun r e => by cases e; have := (World.ownsRow.lt h.stk g rfl).1; have := h.b; omega))
  box := (hg.block Bn (Array.getElem?_eq_some_iff.1 h.box).1 (fun e => h.ne (by cases e; rfl))).trans h.box
  ne := by
    have := (Array.getElem?_eq_some_iff.1 h.box).1
    have := h.ne
    rcases hg' with rfl | rfl <;> omega
  sz := Nat.le_trans h.sz hg.size
  b := h.b
end KR
end Go.Proofs.YtbiifkpelldciaaDoor
