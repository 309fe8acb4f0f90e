/- Size. -/
import Derived.Test.YtobaeeobfcffoaaDoorNdb
import Derived.Test.YtobaeeobfcffoaaDoorCpy
import Derived.RangeFuncBound
import Derived.RangeFuncCalls
import Derived.Test.YtobaeeobfcffoaaDoorHfm
import Derived.Test.YtobaeeobfcffoaaDoorLvc
import Derived.Test.YtobaeeobfcffoaaDoorNmr
import Derived.Test.YtobaeeobfcffoaaDoorFwk
import Derived.Deep.DeepCutAuto
/-! Size. -/
namespace Go.Proofs.YtobaeeobfcffoaaDoor
open Go.RowKit Go.Shelf
attribute [local go_sem] Oper.semAt_some
end Go.Proofs.YtobaeeobfcffoaaDoor

/-! Depth. -/
namespace Go.Proofs.YtobaeeobfcffoaaDoor
open Go.RowKit Go.Shelf
attribute [local go_sem] Oper.semAt_some

set_option maxRecDepth 100000 in
set_option maxHeartbeats 4000000 in
theorem depth_any (t : Tm) (v : Value) (B : Nat) (w : World) (hv : TmV w B t v) (hB : B ≤ w.heap.size) (hB0 : 0 < B) (hsh : ShapesB w) (hsz : szT t ≤ 1000000000) :
    Calls Tryd.prog 37 #[v] w fun e w' => e = .returned (.int .i64 (dpT t : Int)) ∧ Below w.heap.size w w' := by
  have HV := Lib.hid hv
  obtain ⟨k, i, nm, AL, nl, cl, AK, ck, rfl, _, _⟩ := hv.open_
  clear hv
  refine (callsIn_wide (n := 6)).1 ?_
  refine callsIn_of_wp_marks Tryd.func37 rfl trivial ?_ rfl
  simp only [Tryd.ntmps37, List.size_toArray, List.length_cons, List.length_nil, Nat.reduceAdd, Nat.reduceSub, Array.replicate_succ, Array.replicate_zero, List.push_toArray, List.append_toArray, List.nil_append, List.cons_append]
  gi_wp2_with fail
  refine ⟨trivial, ?_⟩
  refine (nodes_in _ k i nm AL nl cl AK _ ck _).mono ?_
  rintro e w3 ⟨rfl, hw3⟩
  gi_wp2_with fail
  have bS := (Boxed.new (w.alloc (.cells #[.int .i64 k, .int .i64 i, .string nm, .slice AL nl cl, .slice AK t.kids.length ck] 25)) 3 (.int .i64 0)).alloc (.cells #[.int .i64 k, .int .i64 i, .string nm, .slice AL nl cl, .slice AK t.kids.length ck] 25)
  simp only [World.size_alloc] at bS
  rw [← hw3] at bS ⊢
  have hb3 : Below w.heap.size w w3 := by rw [hw3]; exact (((Below.refl _ _).alloc (Nat.le_refl _) _).alloc (by simp) _).alloc (by simp; omega) _
  have hs3 : w.heap.size + 1 + 1 < w3.heap.size := by rw [hw3]; simp
  have ht3 : w3.heap[w.heap.size + 1 + 1]? = some (.cells #[.int .i64 k, .int .i64 i, .string nm, .slice AL nl cl, .slice AK t.kids.length ck] 25 (0, 0)) := by
    have h := World.alloc_heap_new ((w.alloc (.cells #[.int .i64 k, .int .i64 i, .string nm, .slice AL nl cl, .slice AK t.kids.length ck] 25)).alloc (.cells #[.int .i64 0] 3)) (.cells #[.int .i64 k, .int .i64 i, .string nm, .slice AL nl cl, .slice AK t.kids.length ck] 25)
    simp only [World.size_alloc] at h
    rw [← hw3] at h
    exact h
  have hcell : ∀ j u, (#[Value.int .i64 k, .int .i64 i, .string nm, .slice AL nl cl, .slice AK t.kids.length ck] : Array Value)[j]? = some u → w3.cell? ⟨w.heap.size + 1 + 1, j, none⟩ = some u := fun j u h => (cell_of_row _ _ _ _ _ _ ht3).trans h
  have hroot : NodeAt w3 w.heap.size (w.heap.size + 1 + 1) ⟨⟨t, 0, 1⟩, w.heap.size + 1 + 1, 0⟩ :=
    ⟨.inr rfl, _, _, _, _, _, hcell 0 _ rfl, hcell 1 _ rfl, hcell 2 _ rfl, hcell 3 _ rfl, hcell 4 _ rfl, (HV.out.more hB).below hb3 (Nat.le_refl _)⟩
  have hsh3 : ShapesB w3 := fun k hk => (hb3.cell (p := ⟨0, k * 5 + 4, none⟩) (by show 0 < w.heap.size; omega)).trans (hsh k hk)
  clear hw3 ht3 hcell hsh
  refine wpIn_rangeB rfl (by decide) (gf := 65) (lb := #[.pointer (some ⟨w.heap.size + 1 + 1, 0, none⟩)]) rfl trivial (enters_of Tryd.func65 (by kernel_rfl) rfl)
    (Kp := KAt w.heap.size (w.heap.size + 1 + 1)) (nd_seq 5 (by decide) (w.heap.size + 1 + 1) w.heap.size t w3 hroot hsh3 (by omega) hsz ⟨by omega, by omega⟩) (fun h k => KAt.trans h k)
    (fun W l o h1 h2 => KAt.grown (grownBy_putObj' W l o) (by omega) (by omega) (fun r e => by cases e; omega)) (fun _ => rfl)
    (fun pre W => Boxed W (w.heap.size + 1) 3 (.int .i64 (maxD 0 (pre.map Nx.nd) : Nat)) ∧ KAt w.heap.size (w.heap.size + 1 + 1) w3 W) (fun _ _ _ => False) ?hI (fun _ _ _ _ h _ => h) ⟨bS, KAt.refl _ _ _⟩
    (fun x a' W => ∃ Bx, w3.heap.size + 2 ≤ Bx ∧ W.heap[Bx]? = some (.cells #[.pointer (some ⟨x.blk, x.off, none⟩), .int .i64 x.nd.b, .int .i64 x.nd.d] 85 (0, 0)) ∧ a' = { tmps := #[.agg #[.int .i64 k, .int .i64 i, .string nm, .slice AL nl cl, .slice AK t.kids.length ck], .pointer (some ⟨w.heap.size, 0, none⟩), .int .i64 0, .pointer (some ⟨w.heap.size + 1, 0, none⟩), .pointer (some ⟨Bx, 0, none⟩), .agg #[.int .i64 k, .int .i64 i, .string nm, .slice AL nl cl, .slice AK t.kids.length ck], .func (.func 65) #[] #[.pointer (some ⟨w.heap.size + 1 + 1, 0, none⟩)], .agg #[.pointer (some ⟨x.blk, x.off, none⟩), .int .i64 x.nd.b, .int .i64 x.nd.d], undef, undef, undef, undef, undef], defers := [] })
    (fun x a' W o ⟨Bx, h1, h2, h3⟩ => ⟨Bx, h1, (World.putObj_heap_other (by omega)).trans h2, h3⟩) ?assign ?body ?done (fun _ _ _ _ h _ => h.elim)
  case hI =>
    rintro pre W W' ⟨h1, h2⟩ hb
    refine ⟨(hb.block _ (by omega)).trans h1, h2.trans ⟨hb.mono (by omega), hb.block _ (by omega)⟩⟩
  case assign =>
    intro l pre x W K hs hgd hi hK
    simp only [encN]
    gi_wp2_with fail
    refine hK _ _ (HighB.grown (World.grownBy_alloc _ _ none) (fun r e => by cases e)) (KAt.grown (World.grownBy_alloc _ _ none) (by omega) (by omega) (fun r e => by cases e)) ⟨hi.1.alloc _, hi.2.trans (KAt.grown (World.grownBy_alloc _ _ none) (by omega) (by omega) (fun r e => by cases e))⟩ ⟨W.heap.size, hs, World.alloc_heap_new _ _, ?_⟩
    rfl
  case body =>
    rintro pre x a' W hs hgd ⟨hc, hk⟩ ⟨Bx, hBx, hcx, rfl⟩ hlt
    have hc0 := hc.cell
    have hf0 := hc.frozen
    have hcx2 : W.cell? ⟨Bx, 2, none⟩ = some (.int .i64 x.nd.d) := cell_of_row _ _ _ _ _ _ hcx
    have hBl : Bx < W.heap.size := (Array.getElem?_eq_some_iff.1 hcx).1
    have HCX := Lib.hid hcx
    clear hcx
    gi_wp2_with fail
    all_goals
      refine ⟨HighB.grown (grownBy_setCell' W _ _) (fun r e => by cases e; omega), KAt.grown (grownBy_setCell' W _ _) (by omega) (by omega) (fun r e => by cases e; omega), ?_, hk.trans (KAt.grown (grownBy_setCell' W _ _) (by omega) (by omega) (fun r e => by cases e; omega))⟩
      rw [List.map_append, maxD_append]
      show Boxed _ _ _ (.int .i64 ((max (maxD 0 (pre.map Nx.nd)) x.nd.d : Nat) : Int))
      first
      | rw [Nat.max_eq_left (by omega)]; exact hc.set _
      | rw [Nat.max_eq_right (by omega)]; exact hc.set _
  case done =>
    rintro xs W hs hS ⟨hc, hk⟩ hD
    have hc0 := hc.cell
    have hl : maxD 0 (xs.map Nx.nd) = dpT t := by rw [hS]; exact pre_depth t
    rw [hl] at hc0
    gi_wp2_with fail
    refine ⟨by simp, .inl ⟨_, _, rfl, run_takeDeferred hD, ?_⟩⟩
    refine ⟨.int .i64 (dpT t : Int), by simp [results, Tryd.results37, go_sem], rfl, ?_⟩
    exact ((hb3.trans (hk.below)).grown (grownBy_putObj' W w3.heap.size (.deferred none)) (by omega) (fun r e => by cases e; omega))
end Go.Proofs.YtobaeeobfcffoaaDoor

/-! scope.check: the error of a node in a scope. -/
namespace Go.Proofs.YtobaeeobfcffoaaDoor
open Go.RowKit

/-- The error of the first level that has one. -/
def lvsE (params levels : Int) : List (Int × List (Int × Int)) → Int
  | [] => 0
  | l :: r => if lvE params levels l.1 l.2 = 0 then lvsE params levels r else lvE params levels l.1 l.2
theorem lvsE_drop {params levels : Int} {ls : List (Int × List (Int × Int))} {j : Nat} (hj : j < ls.length) : lvsE params levels (ls.drop j) = if lvE params levels ls[j].1 ls[j].2 = 0 then lvsE params levels (ls.drop (j + 1)) else lvE params levels ls[j].1 ls[j].2 := by
  rw [← List.getElem_cons_drop hj]
  rfl
/-- The last part of the check of a node. -/
def endN (vars metas k i b : Int) : Int := if (k == 0 && (decide (i < 0) || decide (vars ≤ wrap64 (i - b)))) = true then 24 else if (k == 12 && (decide (i < 0) || decide (metas ≤ i))) = true then 23 else 0
/-- The error of a node. -/
def chkN (vars params metas levels k i b : Int) (nm : ByteArray) (ls : List (Int × List (Int × Int))) (nk : Nat) : Int :=
  if formB k i nm ls.length nk = false then 3
  else if (k == 3 && !nameB nm) = true then 29
  else if (k == 3 && decide (8 < ls.length)) = true then 6
  else if lvsE params levels ls ≠ 0 then lvsE params levels ls
  else endN vars metas k i b

/-- A scope and a node in their boxes, and the node's cells. -/
structure NdS (w : World) (vars params metas levels k i bn dp : Int) (b off : Nat) (nm : ByteArray) (AL : Option Addr) (nl cl : Nat) (wx : World) : Prop where
  s0 : wx.cell? ⟨w.heap.size, 0, none⟩ = some (.int .i64 vars)
  s1 : wx.cell? ⟨w.heap.size, 1, none⟩ = some (.int .i64 params)
  s2 : wx.cell? ⟨w.heap.size, 2, none⟩ = some (.int .i64 metas)
  s3 : wx.cell? ⟨w.heap.size, 3, none⟩ = some (.int .i64 levels)
  n0 : wx.cell? ⟨w.heap.size + 1, 0, none⟩ = some (.pointer (some ⟨b, off, none⟩))
  n1 : wx.cell? ⟨w.heap.size + 1, 1, none⟩ = some (.int .i64 bn)
  n2 : wx.cell? ⟨w.heap.size + 1, 2, none⟩ = some (.int .i64 dp)
  c0 : wx.cell? ⟨b, off, none⟩ = some (.int .i64 k)
  c1 : wx.cell? ⟨b, off + 1, none⟩ = some (.int .i64 i)
  c2 : wx.cell? ⟨b, off + 2, none⟩ = some (.string nm)
  c3 : wx.cell? ⟨b, off + 3, none⟩ = some (.slice AL nl cl)
  below : Below w.heap.size w wx
  size : w.heap.size + 1 < wx.heap.size
namespace NdS
variable {w wx wy : World} {vars params metas levels k i bn dp : Int} {b off : Nat} {nm : ByteArray} {AL : Option Addr} {nl cl : Nat}
theorem next (h : NdS w vars params metas levels k i bn dp b off nm AL nl cl wx) (hb : Below wx.heap.size wx wy) : NdS w vars params metas levels k i bn dp b off nm AL nl cl wy := by
  have hk : ∀ (p : Addr) (v : Value), wx.cell? p = some v → wy.cell? p = some v := fun p v hv => (hb.cell (World.block_lt_of_cell? wx p hv)).trans hv
  exact ⟨hk _ _ h.s0, hk _ _ h.s1, hk _ _ h.s2, hk _ _ h.s3, hk _ _ h.n0, hk _ _ h.n1, hk _ _ h.n2, hk _ _ h.c0, hk _ _ h.c1, hk _ _ h.c2, hk _ _ h.c3, h.below.trans (hb.mono (by have := h.size; omega)), Nat.lt_of_lt_of_le h.size hb.size⟩
end NdS
end Go.Proofs.YtobaeeobfcffoaaDoor

/-! Check. -/
namespace Go.Proofs.YtobaeeobfcffoaaDoor
open Go.RowKit Go.Shelf
attribute [local go_sem] Oper.semAt_some

/-- The error of a node at its place. -/
def chkT (vars params metas levels : Int) (n : Nd) : Int := match n.t with | .mk k i nm ls ks => chkN vars params metas levels k i n.b nm ls ks.length
/-- The first error of nodes. -/
def chkL (vars params metas levels : Int) : List Nd → Int
  | [] => 0
  | n :: r => if chkT vars params metas levels n = 0 then chkL vars params metas levels r else chkT vars params metas levels n
theorem chkL_zero {vars params metas levels : Int} : ∀ {l : List Nd}, (∀ n ∈ l, chkT vars params metas levels n = 0) → chkL vars params metas levels l = 0
  | [], _ => rfl
  | n :: r, h => by rw [chkL, if_pos (h n (List.mem_cons_self ..)), chkL_zero (fun m hm => h m (List.mem_cons_of_mem _ hm))]
theorem chkL_at {vars params metas levels : Int} {n : Nd} (hn : chkT vars params metas levels n ≠ 0) : ∀ {l r : List Nd}, (∀ m ∈ l, chkT vars params metas levels m = 0) → chkL vars params metas levels (l ++ n :: r) = chkT vars params metas levels n
  | [], r, _ => by rw [List.nil_append, chkL, if_neg hn]
  | m :: l, r, h => by rw [List.cons_append, chkL, if_pos (h m (List.mem_cons_self ..)), chkL_at hn (fun q hq => h q (List.mem_cons_of_mem _ hq))]
/-- The error of a term in a scope. -/
def chkC (vars params metas levels : Int) (t : Tm) : Int :=
  if chkL (max 0 vars) (max 0 params) (max 0 metas) (max 0 levels) (preT t 0 1) ≠ 0 then chkL (max 0 vars) (max 0 params) (max 0 metas) (max 0 levels) (preT t 0 1)
  else if 4096 < szT t then 5 else if 200 < dpT t then 7 else 0
/-- The node's cells and its levels. -/
theorem NodeAt.full {w : World} {n₀ Bt : Nat} {x : Nx} (h : NodeAt w n₀ Bt x) : ∃ (k i : Int) (nm : ByteArray) (ls : List (Int × List (Int × Int))) (ks : List Tm) (AL : Option Addr) (cl : Nat) (AK : Option Addr) (ck : Nat), x.nd.t = .mk k i nm ls ks ∧
    w.cell? ⟨x.blk, x.off, none⟩ = some (.int .i64 k) ∧ w.cell? ⟨x.blk, x.off + 1, none⟩ = some (.int .i64 i) ∧ w.cell? ⟨x.blk, x.off + 2, none⟩ = some (.string nm) ∧ w.cell? ⟨x.blk, x.off + 3, none⟩ = some (.slice AL ls.length cl) ∧ w.cell? ⟨x.blk, x.off + 4, none⟩ = some (.slice AK ks.length ck) ∧ LvsA w n₀ AL ls := by
  obtain ⟨⟨t, b, d⟩, blk, off⟩ := x
  obtain ⟨hb, c0, c1, c2, c3, c4, h0, h1, h2, h3, h4, ht⟩ := h
  cases t with
  | mk k i nm ls ks =>
    rw [TmV] at ht
    obtain ⟨AL, cl, AK, ck, hv, hl, _⟩ := ht
    simp only [Value.agg.injEq, Array.mk.injEq, List.cons.injEq, and_true] at hv
    obtain ⟨rfl, rfl, rfl, rfl, rfl⟩ := hv
    exact ⟨k, i, nm, ls, ks, AL, cl, AK, ck, rfl, h0, h1, h2, h3, h4, hl⟩

end Go.Proofs.YtobaeeobfcffoaaDoor
