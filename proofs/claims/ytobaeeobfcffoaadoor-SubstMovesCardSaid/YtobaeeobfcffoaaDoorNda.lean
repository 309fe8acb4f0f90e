/- A term's node at its place in memory; the stack of the iterator. -/
import Derived.Test.YtobaeeobfcffoaaDoorCpy
import Derived.Test.YtobaeeobfcffoaaDoorRgx
import Derived.OwnWalkIn
/-! A term's node at its place in memory; the stack of the iterator. -/
namespace Go.Proofs.YtobaeeobfcffoaaDoor
open Go.RowKit

/-- A node with the block and the offset where its five cells lie. -/
structure Nx where
  nd : Nd
  blk : Nat
  off : Nat
/-- As the value that is yielded. -/
def Nx.cells (x : Nx) : List Value := [.pointer (some ⟨x.blk, x.off, none⟩), .int .i64 x.nd.b, .int .i64 x.nd.d]
def flatN (st : List Nx) : List Value := st.flatMap Nx.cells
theorem flatN_length (st : List Nx) : (flatN st).length = st.length * 3 := by
  induction st with
  | nil => rfl
  | cons a r ih => simp only [flatN, List.flatMap_cons, List.length_append, List.length_cons] at ih ⊢; rw [ih]; simp [Nx.cells]; omega
theorem flatN_append (a b : List Nx) : flatN (a ++ b) = flatN a ++ flatN b := List.flatMap_append
/-- What lay below n₀, and the block Bt, lie as they lay. -/
structure KAt (n₀ Bt : Nat) (W W' : World) : Prop where
  below : Below n₀ W W'
  t : W'.heap[Bt]? = W.heap[Bt]?
theorem KAt.refl (n₀ Bt : Nat) (W : World) : KAt n₀ Bt W W := ⟨Below.refl _ _, rfl⟩
theorem KAt.trans {n₀ Bt : Nat} {A B C : World} (h : KAt n₀ Bt A B) (k : KAt n₀ Bt B C) : KAt n₀ Bt A C := ⟨h.below.trans k.below, k.t.trans h.t⟩
theorem KAt.grown {n₀ Bt : Nat} {W W' : World} {row : Option Nat} (hg : W.grownBy W' row) (hn : n₀ ≤ W.heap.size) (ht : Bt < W.heap.size) (hr : ∀ r, row = some r → n₀ ≤ r ∧ r ≠ Bt) : KAt n₀ Bt W W' :=
  ⟨(Below.refl n₀ W).grown hg hn (fun r e => (hr r e).1), hg.block Bt ht (fun e => (hr Bt e.symm).2 rfl)⟩
theorem KAt.cell {n₀ Bt : Nat} {W W' : World} (h : KAt n₀ Bt W W') {p : Addr} (hp : p.block < n₀ ∨ p.block = Bt) : W'.cell? p = W.cell? p := by
  rcases hp with hp | hp
  · exact h.below.cell hp
  · exact World.cell?_of_block (by rw [hp]; exact h.t)
/-- The five cells of the node lie at its place. -/
def NodeAt (w : World) (n₀ Bt : Nat) (x : Nx) : Prop :=
  (x.blk < n₀ ∨ x.blk = Bt) ∧ ∃ c0 c1 c2 c3 c4, w.cell? ⟨x.blk, x.off, none⟩ = some c0 ∧ w.cell? ⟨x.blk, x.off + 1, none⟩ = some c1 ∧ w.cell? ⟨x.blk, x.off + 2, none⟩ = some c2 ∧ w.cell? ⟨x.blk, x.off + 3, none⟩ = some c3 ∧ w.cell? ⟨x.blk, x.off + 4, none⟩ = some c4 ∧ TmV w n₀ x.nd.t (.agg #[c0, c1, c2, c3, c4])
theorem NodeAt.keep {w W : World} {n₀ Bt : Nat} {x : Nx} (h : NodeAt w n₀ Bt x) (k : KAt n₀ Bt w W) : NodeAt W n₀ Bt x := by
  obtain ⟨hb, c0, c1, c2, c3, c4, h0, h1, h2, h3, h4, ht⟩ := h
  exact ⟨hb, c0, c1, c2, c3, c4, (k.cell (p := ⟨x.blk, x.off, none⟩) hb).trans h0, (k.cell (p := ⟨x.blk, x.off + 1, none⟩) hb).trans h1, (k.cell (p := ⟨x.blk, x.off + 2, none⟩) hb).trans h2, (k.cell (p := ⟨x.blk, x.off + 3, none⟩) hb).trans h3, (k.cell (p := ⟨x.blk, x.off + 4, none⟩) hb).trans h4, ht.below k.below (Nat.le_refl _)⟩
/-- The kids at their places, from number i on. -/
def kidsX (k : Int) (b d kb ko : Nat) : Nat → List Tm → List Nx
  | _, [] => []
  | i, q :: r => ⟨kidNd k b d i q, kb, ko + i * 5⟩ :: kidsX k b d kb ko (i + 1) r
theorem kidsX_nd (k : Int) (b d kb ko : Nat) : ∀ (ks : List Tm) (i : Nat), (kidsX k b d kb ko i ks).map Nx.nd = kidsNd k b d i ks
  | [], _ => rfl
  | q :: r, i => by rw [kidsX, List.map_cons, kidsX_nd k b d kb ko r (i + 1), kidsNd]
theorem kidsX_length (k : Int) (b d kb ko : Nat) : ∀ (ks : List Tm) (i : Nat), (kidsX k b d kb ko i ks).length = ks.length
  | [], _ => rfl
  | q :: r, i => by rw [kidsX, List.length_cons, kidsX_length k b d kb ko r (i + 1), List.length_cons]
theorem kidsX_at (k : Int) (b d kb ko : Nat) : ∀ (ks : List Tm) (i j : Nat) (q : Tm), ks[j]? = some q → (kidsX k b d kb ko i ks)[j]? = some ⟨kidNd k b d (i + j) q, kb, ko + (i + j) * 5⟩
  | [], _, _, _, h => by simp at h
  | p :: r, i, j, q, h => by
    cases j with
    | zero => simp at h; subst h; rfl
    | succ j =>
      rw [kidsX, List.getElem?_cons_succ, kidsX_at k b d kb ko r (i + 1) j q (by simpa using h), show i + 1 + j = i + (j + 1) by omega]
theorem kidsX_bd (k : Int) (b d kb ko : Nat) : ∀ (ks : List Tm) (i : Nat) (y : Nx), y ∈ kidsX k b d kb ko i ks → y.nd.b ≤ b + 1 ∧ y.nd.d = d + 1
  | [], _, y, h => by cases h
  | q :: r, i, y, h => by
    rcases List.mem_cons.1 h with rfl | h
    · refine ⟨?_, rfl⟩
      show b + (if _ then 1 else 0) ≤ b + 1
      split <;> omega
    · exact kidsX_bd k b d kb ko r (i + 1) y h
/-- What a node's value spells, at its place. -/
theorem NodeAt.open_ {w : World} {n₀ Bt : Nat} {x : Nx} (h : NodeAt w n₀ Bt x) : ∃ (i : Int) (nm : ByteArray) (AL : Option Addr) (nl cl : Nat) (AK : Option Addr) (ck kb ko : Nat),
    w.cell? ⟨x.blk, x.off, none⟩ = some (.int .i64 x.nd.t.kind) ∧ w.cell? ⟨x.blk, x.off + 1, none⟩ = some (.int .i64 i) ∧ w.cell? ⟨x.blk, x.off + 2, none⟩ = some (.string nm) ∧ w.cell? ⟨x.blk, x.off + 3, none⟩ = some (.slice AL nl cl) ∧
    w.cell? ⟨x.blk, x.off + 4, none⟩ = some (.slice AK x.nd.t.kids.length ck) ∧ x.nd.t.kids.length ≤ 1759218604441 ∧ (0 < x.nd.t.kids.length → AK = some ⟨kb, ko, none⟩ ∧ kb < n₀) ∧
    (∀ y ∈ kidsX x.nd.t.kind x.nd.b x.nd.d kb ko 0 x.nd.t.kids, NodeAt w n₀ Bt y) := by
  obtain ⟨⟨t, b, d⟩, blk, off⟩ := x
  obtain ⟨hb, c0, c1, c2, c3, c4, h0, h1, h2, h3, h4, ht⟩ := h
  cases t with
  | mk k i nm ls ks =>
    rw [TmV] at ht
    obtain ⟨AL, cl, AK, ck, hv, hl, hz, hks⟩ := ht
    simp only [Value.agg.injEq, Array.mk.injEq, List.cons.injEq, and_true] at hv
    obtain ⟨rfl, rfl, rfl, rfl, rfl⟩ := hv
    by_cases hn : 0 < ks.length
    · obtain ⟨kb, ko, e, hkb, hc⟩ := hks hn
      refine ⟨i, nm, AL, _, cl, AK, ck, kb, ko, h0, h1, h2, h3, h4, by simp only [Tm.kids]; omega, fun _ => ⟨e, hkb⟩, fun y hy => ?_⟩
      obtain ⟨j, hj⟩ := List.getElem?_of_mem hy
      have hjl : j < ks.length := by
        have := (List.getElem?_eq_some_iff.1 hj).1
        rw [kidsX_length] at this
        exact this
      have hj' := (kidsX_at k b d kb ko ks 0 j _ (List.getElem?_eq_getElem hjl)).symm.trans hj
      cases hj'
      obtain ⟨d0, d1, d2, d3, d4, g0, g1, g2, g3, g4, gt⟩ := hc.at_ (List.getElem?_eq_getElem hjl)
      simp only [Nat.zero_add]
      exact ⟨.inl hkb, d0, d1, d2, d3, d4, g0, g1, g2, g3, g4, gt⟩
    · refine ⟨i, nm, AL, _, cl, AK, ck, 0, 0, h0, h1, h2, h3, h4, by simp only [Tm.kids]; omega, fun h => absurd h hn, fun y hy => ?_⟩
      have : ks = [] := by cases ks with | nil => rfl | cons a r => simp at hn
      subst this
      cases hy
/-- The stack: the slice value v is memory of the iterator's own, from block base on, and holds the nodes. -/
def Stk (w : World) (base : Nat) (v : Value) (st : List Nx) : Prop := w.ownsRow base 85 3 v st.length (flatN st)
theorem Stk.at_ {w : World} {base g c n : Nat} {st : List Nx} {j : Nat} {x : Nx} (h : Stk w base (.slice (some ⟨g, 0, none⟩) n c) st) (hj : st[j]? = some x) :
    w.cell? ⟨g, j * 3, none⟩ = some (.pointer (some ⟨x.blk, x.off, none⟩)) ∧ w.cell? ⟨g, j * 3 + 1, none⟩ = some (.int .i64 x.nd.b) ∧ w.cell? ⟨g, j * 3 + 2, none⟩ = some (.int .i64 x.nd.d) := by
  have hc := World.ownsRow.cells h (g := g) rfl
  have hlt : j < st.length := (List.getElem?_eq_some_iff.1 hj).1
  have key : ∀ i, i < 3 → (flatN st)[j * 3 + i]? = x.cells[i]? := by
    intro i hi
    have e : st = st.take j ++ x :: st.drop (j + 1) := by
      have := List.getElem?_eq_some_iff.1 hj
      obtain ⟨h1, h2⟩ := this
      rw [← h2, List.getElem_cons_drop, List.take_append_drop]
    rw [e, flatN_append]
    have hl : (flatN (st.take j)).length = j * 3 := by rw [flatN_length, List.length_take]; congr 1; omega
    rw [List.getElem?_append_right (by omega), hl, show j * 3 + i - j * 3 = i by omega]
    show (x.cells ++ flatN (st.drop (j + 1)))[i]? = _
    rw [List.getElem?_append_left (by simp [Nx.cells]; omega)]
  have get : ∀ i u, i < 3 → x.cells[i]? = some u → w.cell? ⟨g, j * 3 + i, none⟩ = some u := by
    intro i u hi hu
    have := hc (j * 3 + i) u ((key i hi).trans hu)
    rw [Addr.add_lit] at this
    simpa using this
  exact ⟨get 0 _ (by omega) rfl, get 1 _ (by omega) rfl, get 2 _ (by omega) rfl⟩
theorem Stk.cap {w : World} {base g c n : Nat} {st : List Nx} (h : Stk w base (.slice (some ⟨g, 0, none⟩) n c) st) : st.length ≤ c := by
  rcases h.2 with ⟨e, _⟩ | ⟨g', cap, cur, e, hb, hg, hn, hm, hs, ht⟩
  · cases e
  · cases e
    exact hn
theorem Stk.move {w w' : World} {base g c n : Nat} {st : List Nx} (h : Stk w base (.slice (some ⟨g, 0, none⟩) n c) st) (e : w'.heap[g]? = w.heap[g]?) : Stk w' base (.slice (some ⟨g, 0, none⟩) n c) st := by
  refine ⟨h.1, ?_⟩
  rcases h.2 with ⟨e0, _⟩ | ⟨g', cap, cur, e0, hb, hg, rest⟩
  · cases e0
  · cases e0
    exact .inr ⟨g, c, cur, rfl, hb, e.trans hg, rest⟩
/-- The last node taken off. -/
theorem Stk.pop {w : World} {base g c n : Nat} {st : List Nx} {x : Nx} (h : Stk w base (.slice (some ⟨g, 0, none⟩) n c) (st ++ [x])) : Stk w base (.slice (some ⟨g, 0, none⟩) st.length c) st := by
  refine ⟨flatN_length st, ?_⟩
  rcases h.2 with ⟨e, _⟩ | ⟨g', cap, cur, e, hb, hg, hn, hm, hs, ht⟩
  · cases e
  · cases e
    rw [List.length_append, List.length_singleton] at hn ht
    refine .inr ⟨g, c, cur, rfl, hb, hg, by omega, hm, hs, ?_⟩
    have e1 : (flatN st).take (st.length * 3) = flatN st := List.take_of_length_le (by rw [flatN_length]; omega)
    have e2 : (flatN (st ++ [x])).take (st.length * 3) = flatN st := by rw [flatN_append, List.take_append_of_le_length (by rw [flatN_length]; omega), e1]
    rw [← e2, ← ht, List.take_take, Nat.min_eq_left (by omega)]
end Go.Proofs.YtobaeeobfcffoaaDoor

/-! An append onto the iterator's stack: which block it lies in. -/
namespace Go.Proofs.YtobaeeobfcffoaaDoor
open Go.RowKit

theorem run_append_stk {P : Program} (w : World) (base : Nat) (t ty e : TypeId) (i : TypeInfo) (z : Value) (size bytes : Nat) (ht : P.underlying t = some (.slice e)) (hi : P.info? e = some i) (hz : i.zero = some z)
    (hsize : i.size = size) (hby : i.bytes = bytes) (hzs : z.cells.size = size) (hsz : 0 < size)
    (g k cap : Nat) (xs : List Value) (hown : w.ownsRow base e size (.slice (some ⟨g, 0, none⟩) k cap) k xs)
    (ad : Addr) (m c : Nat) (news : List Value) (hl : news.length = m * size) (hnews : ∀ j u, news[j]? = some u → w.cell? (ad.add j) = some u) (hone : ∀ u ∈ news, u.oneCell' = true)
    (h63 : k + m ≤ maxLen) (hbytes : (k + m) * bytes ≤ 140737488355328) (hbase : base ≤ w.heap.size) :
    ∃ g' cap' w', (Builtin.append_ #[t, t] ty #[.slice (some ⟨g, 0, none⟩) k cap, .slice (some ad) m c]).run P w = .ok (.slice (some ⟨g', 0, none⟩) (k + m) cap') w' ∧ (g' = g ∨ g' = w.heap.size) ∧
      w'.ownsRow base e size (.slice (some ⟨g', 0, none⟩) (k + m) cap') (k + m) (xs ++ news) ∧ w.grownBy w' (some g) := by
  obtain ⟨v', w', hr, h2, h3, _⟩ := run_append_own (P := P) w base t ty e i z size bytes ht hi hz hsize hby hzs hsz _ k xs hown ad m c news hl hnews hone h63 hbytes hbase
  subst hsize
  subst hby
  have hsmall : k + m ≤ 9223372036854775807 := by simp only [maxLen] at h63; omega
  by_cases hroom : k + m ≤ cap
  · rcases hown.2 with ⟨e0, _⟩ | ⟨g0, cap0, cur, e0, _, hg, _, _, hcs, _⟩
    · cases e0
    · cases e0
      have hq := run_append_room (P := P) w t ty e i ht hi g k cap cur hg ad m c news hl hnews hone hroom (by rw [hl, hcs, ← Nat.add_mul]; exact Nat.mul_le_mul_right _ hroom)
      rw [hq] at hr
      cases hr
      exact ⟨g, cap, _, hq, .inl rfl, h2, h3⟩
  · have hq := run_append_grow (P := P) w t ty e i z ht hi hz ⟨g, 0, none⟩ k cap xs hown.1 (hown.cells (g := g) rfl) ad m c news hl hnews (by omega) (by omega) (growslice_fits (by omega) hbytes)
    rw [hq] at hr
    cases hr
    exact ⟨w.heap.size, _, _, hq, .inr rfl, h2, h3⟩

theorem wpListIn_append_stk {F : Fence} {n : Nat} {P : Program} (w : World) {ops : Array Oper} {rest : List Oper} {o : Oper} {a : Act} {Q : Exit → Act → World → Prop}
    (hgd : o.guard = none) (s x : Operand) (t : TypeId) (hop : o.op = Op.call { callee := Callee.builtin Builtin.append, args := #[s, x], argTypes := #[t, t] })
    (base : Nat) (e : TypeId) (i : TypeInfo) (z : Value) (size bytes : Nat) (ht : P.underlying t = some (.slice e)) (hi : P.info? e = some i) (hz : i.zero = some z)
    (hsize : i.size = size) (hby : i.bytes = bytes) (hzs : z.cells.size = size) (hsz : 0 < size)
    (g k cap : Nat) (xs : List Value) (hs : a.eval s = .slice (some ⟨g, 0, none⟩) k cap) (hown : w.ownsRow base e size (.slice (some ⟨g, 0, none⟩) k cap) k xs)
    (ad : Addr) (m c : Nat) (news : List Value) (hx : a.eval x = .slice (some ad) m c) (hl : news.length = m * size) (hnews : ∀ j u, news[j]? = some u → w.cell? (ad.add j) = some u) (hone : ∀ u ∈ news, u.oneCell' = true)
    (h63 : k + m ≤ maxLen) (hbytes : (k + m) * bytes ≤ 140737488355328) (hbase : base ≤ w.heap.size)
    (hK : ∀ g' cap' w', (g' = g ∨ g' = w.heap.size) → w'.ownsRow base e size (.slice (some ⟨g', 0, none⟩) (k + m) cap') (k + m) (xs ++ news) → w.grownBy w' (some g) →
      wpListIn F n P ops Q rest (a.put o.dst (.slice (some ⟨g', 0, none⟩) (k + m) cap')) w') :
    wpListIn F n P ops Q (o :: rest) a w := by
  obtain ⟨g', cap', w', hr, h1, h2, h3⟩ := run_append_stk (P := P) w base t o.type e i z size bytes ht hi hz hsize hby hzs hsz g k cap xs hown ad m c news hl hnews hone h63 hbytes hbase
  refine wpListIn_plain hgd fun K hK' => ?_
  unfold Oper.wpIn
  refine ⟨by simp [Oper.about, hop, resolve, Target.leads, Sem.run_pure], ?_⟩
  rw [Oper.semAt_plain F _ _ (by rw [hop]; intro c hc'; cases hc')]
  simp [execOp, hop, resolve, invoke, builtin, hs, hx, hr, Result.andThen]
  exact hK' _ _ (hK g' cap' w' h1 h2 h3)

/-- In the inner loop: the stack, the set of the iterator's blocks, the node's own box. -/
structure KR (B0 n₀ Bt Bn g : Nat) (w : World) (J : (Nat → Prop) → List Nx → World → Prop) (X : Nat → Prop) (pre stk : List Nx) (c : Nat) (o : Obj) (wx : World) : Prop where
  stk : Stk wx B0 (.slice (some ⟨g, 0, none⟩) stk.length c) stk
  x : X g
  j : J X pre wx
  k : KAt n₀ Bt w wx
  box : wx.heap[Bn]? = some o
  ne : g ≠ Bn
  sz : B0 ≤ wx.heap.size
  b : n₀ ≤ B0 ∧ n₀ ≤ Bt ∧ Bt < B0
namespace KR
variable {B0 n₀ Bt Bn g c : Nat} {w : World} {J : (Nat → Prop) → List Nx → World → Prop} {X : Nat → Prop} {pre stk : List Nx} {o : Obj} {wx : World}
theorem lt (h : KR B0 n₀ Bt Bn g w J X pre stk c o wx) : g < wx.heap.size := (World.ownsRow.lt h.stk g rfl).2
theorem new (hJ : Lets J) (h : KR B0 n₀ Bt Bn g w J X pre stk c o wx) {wy : World} (hg : wx.grownBy wy none) : KR B0 n₀ Bt Bn g w J (fun r => X r ∨ (wx.heap.size ≤ r ∧ r < wy.heap.size)) pre stk c o wy where
  stk := World.ownsRow.kept h.stk hg (.inr (by simp [Value.ownBlock]))
  x := .inl h.x
  j := hJ _ _ _ _ none h.j hg (fun _ e => by cases e)
  k := h.k.trans (KAt.grown hg (by have := h.sz; have := h.b; omega) (by have := h.sz; have := h.b; omega) (fun _ e => by cases e))
  box := (hg.block Bn (Array.getElem?_eq_some_iff.1 h.box).1 (fun e => by cases e)).trans h.box
  ne := h.ne
  sz := Nat.le_trans h.sz hg.size
  b := h.b
theorem push (hJ : Lets J) (h : KR B0 n₀ Bt Bn g w J X pre stk c o wx) {wy : World} {g' c' : Nat} {y : Nx} (hg : wx.grownBy wy (some g)) (hg' : g' = g ∨ g' = wx.heap.size)
    (hown : wy.ownsRow B0 85 3 (.slice (some ⟨g', 0, none⟩) (stk.length + 1) c') (stk.length + 1) (flatN stk ++ y.cells)) :
    KR B0 n₀ Bt Bn g' w J (fun r => X r ∨ (wx.heap.size ≤ r ∧ r < wy.heap.size)) pre (stk ++ [y]) c' o wy where
  stk := by
    unfold Stk
    rw [List.length_append, List.length_singleton, flatN_append]
    have e : flatN [y] = y.cells := by simp [flatN]
    rw [e]
    exact hown
  x := by
    have := World.ownsRow.lt hown g' rfl
    rcases hg' with rfl | rfl
    · exact .inl h.x
    · exact .inr ⟨Nat.le_refl _, this.2⟩
  j := hJ _ _ _ _ (some g) h.j hg (fun r e => by cases e; exact h.x)
  k := h.k.trans (KAt.grown hg (by have := h.sz; have := h.b; omega) (by have := h.sz; have := h.b; omega) (fun r e => by cases e; have := (World.ownsRow.lt h.stk g rfl).1; have := h.b; omega))
  box := (hg.block Bn (Array.getElem?_eq_some_iff.1 h.box).1 (fun e => h.ne (by cases e; rfl))).trans h.box
  ne := by
    have := (Array.getElem?_eq_some_iff.1 h.box).1
    have := h.ne
    rcases hg' with rfl | rfl <;> omega
  sz := Nat.le_trans h.sz hg.size
  b := h.b
end KR
end Go.Proofs.YtobaeeobfcffoaaDoor
