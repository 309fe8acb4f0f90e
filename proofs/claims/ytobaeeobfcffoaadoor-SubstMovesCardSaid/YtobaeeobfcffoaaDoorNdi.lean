/- nodes$1: the iterator over the nodes of a term. -/
import Derived.Test.YtobaeeobfcffoaaDoorNda
import Derived.Test.YtobaeeobfcffoaaDoorKnd
import Derived.RangeFuncBox
import Derived.RangeFuncLeaves
import Derived.RangeFuncNested
import Derived.Shelf.Abstract
import Derived.OwnWalkIn
import Derived.TacticsInMore
import Derived.LoopNIn
import Derived.LoopIn
import Derived.Sort.QuietIn
import Derived.BigRegionIn
import Derived.Deep.LoopGhost
import Derived.Sort.CutIn
namespace Go.Proofs.YtobaeeobfcffoaaDoor
open Go.RowKit Go.Shelf
attribute [local go_sem] Oper.semAt_some

/-- The table of the kinds lies in block 0. -/
def ShapesB (w : World) : Prop := ∀ k : Nat, k < 13 → w.cell? ⟨0, k * 5 + 4, none⟩ = some (.int .i64 (bindK k))

theorem info_node : (Tryd.prog.info? 85).map (fun i => (i.zero, i.size, i.bytes)) = some (some (.agg #[.pointer none, .int .i64 0, .int .i64 0]), 3, 24) := by kernel_rfl
theorem grown_node (w : World) (o o' : Obj) : w.grownBy (((w.alloc o).alloc o').drew) none :=
  ⟨rfl, rfl, rfl, by simp; omega, fun k hk _ => (Below.heap_alloc (w.alloc o) o' k (by simp; omega)).trans (Below.heap_alloc w o k hk)⟩
theorem cell_three_new (W : World) (o : Obj) (a b c : Value) (t : TypeId) : ∀ j u, [a, b, c][j]? = some u → (((W.alloc o).alloc (.cells #[a, b, c] t)).drew).cell? ((⟨W.heap.size + 1, 0, none⟩ : Addr).add j) = some u := by
  intro j u hj
  have hn : (((W.alloc o).alloc (.cells #[a, b, c] t)).drew).heap[W.heap.size + 1]? = some (.cells #[a, b, c] t (0, 0)) := by
    have h := World.alloc_heap_new (W.alloc o) (.cells #[a, b, c] t)
    rw [World.size_alloc] at h
    exact h
  rw [Addr.add_lit]
  rcases j with _ | _ | _ | j
  · simp at hj; subst hj; exact cell_of_row _ _ _ _ _ _ hn
  · simp at hj; subst hj; exact cell_of_row _ _ _ _ _ _ hn
  · simp at hj; subst hj; exact cell_of_row _ _ _ _ _ _ hn
  · simp at hj
theorem rest_le : ∀ (l : List Nd), l.length ≤ (rest l).length := by
  intro l
  unfold rest
  have key : ∀ (m : List Nd), m.length ≤ (m.flatMap Nd.pre).length := by
    intro m
    induction m with
    | nil => exact Nat.le_refl _
    | cons a r ih =>
      rw [List.flatMap_cons, List.length_append, List.length_cons]
      have : 1 ≤ (Nd.pre a).length := by rw [pre_cons]; simp
      omega
  have := key l.reverse
  rwa [List.length_reverse] at this

/-- At the head of the loop: so many nodes are still to come. -/
def NR (B0 n₀ Bt : Nat) (t : Tm) (J : (Nat → Prop) → List Nx → World → Prop) (w : World) (k : Nat) (v : Value) (wr : World) : Prop :=
  ∃ X pre st g c, v = .slice (some ⟨g, 0, none⟩) st.length c ∧ Stk wr B0 v st ∧ X g ∧ J X pre wr ∧ KAt n₀ Bt w wr ∧ B0 ≤ wr.heap.size ∧ (∀ x ∈ st, NodeAt w n₀ Bt x ∧ x.nd.b < x.nd.d ∧ x.nd.d ≤ pre.length + 1) ∧ pre.map Nx.nd ++ rest (st.map Nx.nd) = preT t 0 1 ∧ k = (rest (st.map Nx.nd)).length

noncomputable def NRm (B0 n₀ Bt : Nat) (t : Tm) (J : (Nat → Prop) → List Nx → World → Prop) (w : World) (v : Value) (wr : World) : Nat := leastOf (fun k => NR B0 n₀ Bt t J w k v wr)
theorem NR_least {B0 n₀ Bt : Nat} {t : Tm} {J : (Nat → Prop) → List Nx → World → Prop} {w wr : World} {v : Value} (h : ∃ k, NR B0 n₀ Bt t J w k v wr) : ∃ k, Hid (k = NRm B0 n₀ Bt t J w v wr) ∧ NR B0 n₀ Bt t J w k v wr :=
  ⟨_, Lib.hid rfl, (leastOf_spec h).1⟩
theorem NR_le {B0 n₀ Bt k : Nat} {t : Tm} {J : (Nat → Prop) → List Nx → World → Prop} {w wr : World} {v : Value} (h : NR B0 n₀ Bt t J w k v wr) : NRm B0 n₀ Bt t J w v wr ≤ k := (leastOf_spec ⟨k, h⟩).2 k h

set_option maxRecDepth 100000 in
set_option maxHeartbeats 4000000 in
theorem nd1_in (n : Nat) (hn : 1 ≤ n) (l Bt n₀ : Nat) (t : Tm) (J : (Nat → Prop) → List Nx → World → Prop) (Jx : List Nx → World → Prop) (w W : World) (hJ : Lets J)
    (hY : ∀ X pre x W1, J X pre W1 → pre.length < szT t → NodeAt w n₀ Bt x → YieldAt Fence.wide (n - 1) Tryd.prog l #[.agg #[.pointer (some ⟨x.blk, x.off, none⟩), .int .i64 x.nd.b, .int .i64 x.nd.d]] W1 fun e W' =>
      (e = .returned (.bool true) ∧ J X (pre ++ [x]) W' ∧ KAt n₀ Bt W1 W' ∧ W1.heap.size ≤ W'.heap.size ∧ ∀ r, X r → W'.heap[r]? = W1.heap[r]?) ∨ (e = .returned (.bool false) ∧ Jx (pre ++ [x]) W'))
    (h0 : J (fun _ => False) [] W) (hk : KAt n₀ Bt w W) (hr : NodeAt w n₀ Bt ⟨⟨t, 0, 1⟩, Bt, 0⟩) (hsh : ShapesB w) (h0n : 0 < n₀) (hsz : szT t ≤ 1000000000) (hBt : n₀ ≤ Bt ∧ Bt < W.heap.size) :
    CallsIn Fence.wide n Tryd.prog 65 #[.func (.yield l) #[] #[], .pointer (some ⟨Bt, 0, none⟩)] W fun e W' => (∃ v, e = .returned v) ∧
      ((∃ X xs, xs.map Nx.nd = preT t 0 1 ∧ J X xs W') ∨ (∃ pre tl, pre.map Nx.nd ++ tl = preT t 0 1 ∧ Jx pre W')) := by
  refine callsIn_of_wp Tryd.func65 rfl trivial ?_ rfl
  simp only [Tryd.ntmps65, List.size_toArray, List.length_cons, List.length_nil, Nat.reduceAdd, Nat.reduceSub, Array.replicate_succ, Array.replicate_zero, List.push_toArray, List.append_toArray, List.nil_append, List.cons_append]
  gi_wp2
  gi_loopw [3] (fun v wr => ∃ k, NR W.heap.size n₀ Bt t J w k v wr) (fun v wr => NRm W.heap.size n₀ Bt t J w v wr)
  case atStart =>
    refine ⟨_, (fun r => False ∨ (W.heap.size ≤ r ∧ r < (W.alloc (.cells #[.pointer (some ⟨Bt, 0, none⟩), .int .i64 0, .int .i64 1] 85)).heap.size)), [], [⟨⟨t, 0, 1⟩, Bt, 0⟩], W.heap.size, 1, rfl, ?_, ?_, ?_, ?_, ?_, ?_, ?_, rfl⟩
    · exact ⟨rfl, .inr ⟨W.heap.size, 1, _, rfl, Nat.le_refl _, World.alloc_heap_new _ _, Nat.le_refl _, by decide, rfl, rfl⟩⟩
    · exact .inr ⟨Nat.le_refl _, by simp⟩
    · exact hJ _ _ _ _ none h0 (World.grownBy_alloc _ _ _) (fun _ e => by cases e)
    · exact hk.trans (KAt.grown (World.grownBy_alloc _ _ none) (by omega) (by omega) (fun _ e => by cases e))
    · simp
    · intro x hx
      rw [List.mem_singleton] at hx
      subst hx
      exact ⟨hr, Nat.zero_lt_one, Nat.le_refl _⟩
    · show [] ++ rest [⟨t, 0, 1⟩] = _
      unfold rest
      simp [Nd.pre]
  case round =>
    obtain ⟨Wr, rfl⟩ : ∃ Wr, Wr = wr := ⟨_, rfl⟩
    obtain ⟨k, hm, X, pre, st, g, c, rfl, hst, hXg, hJs, hkw, hsw, hall, hpre, hkk⟩ := NR_least hrel
    have hlen : st.length ≤ 1000000000 := by
      have h1 := rest_le (st.map Nx.nd)
      have h2 := congrArg List.length hpre
      rw [List.length_append, preT_length] at h2
      rw [List.length_map] at h1
      omega
    rcases List.eq_nil_or_concat st with rfl | ⟨st0, x, e⟩
    · have hp := Lib.hid hpre
      clear hpre hall
      gi_wp2
      go_end0
      refine ⟨⟨_, rfl⟩, .inl ⟨X, pre, ?_, hJs⟩⟩
      have h := hp.out
      rw [List.map_nil, rest_nil, List.append_nil] at h
      exact h
    · rw [List.concat_eq_append] at e
      subst e
      have hlt : st0.length < 1000000000 := by simp at hlen; omega
      obtain ⟨hx0, hx1, hx2⟩ := hst.at_ (j := st0.length) (x := x) (by simp)
      have hcap : st0.length + 1 ≤ c := by have := hst.cap; simpa using this
      have hgl : g < Wr.heap.size := (World.ownsRow.lt hst g rfl).2
      have hST := Lib.hid hst
      have hAL := Lib.hid hall
      have hPR := Lib.hid hpre
      have hKK := Lib.hid hkk
      clear hst hall hpre hkk hlen
      have hpl : pre.length < szT t := by
        have h2 := congrArg List.length hPR.out
        rw [List.map_append, List.map_singleton, rest_push, List.length_append, preT_length] at h2
        simp at h2
        omega
      gi_wp2
      obtain ⟨o1, ho1⟩ : ∃ o1, o1 = Obj.cells #[.pointer (some ⟨x.blk, x.off, none⟩), .int .i64 x.nd.b, .int .i64 x.nd.d] 85 := ⟨_, rfl⟩
      have hJ1 := hJ X pre Wr (Wr.alloc o1) none hJs (World.grownBy_alloc _ _ _) (fun _ e => by cases e)
      obtain ⟨fn, tmps, assign, body, hy, hR⟩ := hY _ pre x (Wr.alloc o1) hJ1 hpl (hAL.out x (by simp)).1
      rw [ho1] at hy hR hJ1
      rw [hy]
      gi_wp2
      refine hR.mono ?_
      rintro e W3 (⟨rfl, hJ3, hk3, hs3, hX3⟩ | ⟨rfl, hJx3⟩)
      · have hb3 : W3.heap[Wr.heap.size]? = some (.cells #[.pointer (some ⟨x.blk, x.off, none⟩), .int .i64 x.nd.b, .int .i64 x.nd.d] 85 (0, 0)) :=
          (hX3 Wr.heap.size (.inr ⟨Nat.le_refl _, by simp⟩)).trans (World.alloc_heap_new _ _)
        have hg3 : W3.heap[g]? = Wr.heap[g]? := (hX3 g (.inl hXg)).trans (Below.heap_alloc _ _ _ hgl)
        have hkW3 : KAt n₀ Bt w W3 := (hkw.trans (KAt.grown (World.grownBy_alloc _ _ none) (by omega) (by omega) (fun _ e => by cases e))).trans hk3
        have hsW3 : Wr.heap.size < W3.heap.size := by simp at hs3; omega
        have hn0 : W3.cell? ⟨Wr.heap.size, 0, none⟩ = some (.pointer (some ⟨x.blk, x.off, none⟩)) := by simp [World.cell?, hb3]
        have hn1 : W3.cell? ⟨Wr.heap.size, 1, none⟩ = some (.int .i64 x.nd.b) := by simp [World.cell?, hb3]
        have hn2 : W3.cell? ⟨Wr.heap.size, 2, none⟩ = some (.int .i64 x.nd.d) := by simp [World.cell?, hb3]
        obtain ⟨xi, xnm, xAL, xnl, xcl, AK, ck, kb, ko, hq0, hq1, hq2, hq3, hq4, hkl, hAK, hkids⟩ := (hAL.out x (by simp)).1.open_
        have hxb := (hAL.out x (by simp)).1.1
        have HQ4 := Lib.hid hq4
        replace hq0 := (hkW3.cell (p := ⟨x.blk, x.off, none⟩) hxb).trans hq0
        replace hq4 := (hkW3.cell (p := ⟨x.blk, x.off + 4, none⟩) hxb).trans hq4
        have HXB := Lib.hid hxb
        have HN := Lib.hid hkids
        have hsh3 : ∀ k : Nat, k < 13 → W3.cell? ⟨0, k * 5 + 4, none⟩ = some (.int .i64 (bindK k)) := fun k h => (hkW3.cell (p := ⟨0, k * 5 + 4, none⟩) (.inl h0n)).trans (hsh k h)
        have hIK := Lib.hid (isKind_any x.nd.t.kind W3)
        have HB3 := Lib.hid hb3
        have HX3 := Lib.hid hX3
        have HG3 := Lib.hid hg3
        have HQ := Lib.hid (And.intro hq1 (And.intro hq2 hq3))
        have HK := Lib.hid hAK
        have HS := Lib.hid hsh3
        clear hb3 hX3 hg3 hq1 hq2 hq3 hAK hkids hsh3 hx0 hx1 hx2 hxb
        have hkn : st0.length + x.nd.t.kids.length < 1000000000 := by
          have h2 := congrArg List.length hPR.out
          rw [List.map_append, List.map_singleton, rest_push, List.length_append, preT_length, List.length_cons] at h2
          have h3 := rest_le (st0.map Nx.nd ++ (kidsNd x.nd.t.kind x.nd.b x.nd.d 0 x.nd.t.kids).reverse)
          rw [List.length_append, List.length_map, List.length_reverse, kidsNd_length] at h3
          omega
        have hbd : x.nd.b < x.nd.d ∧ x.nd.d ≤ 1000000000 := by
          have h := (hAL.out x (by simp)).2
          omega
        obtain ⟨hbd1, hbd2⟩ := hbd
        generalize hkd : x.nd.t.kind = kd at *
        generalize hks : x.nd.t.kids = ks at *
        have HKD := Lib.hid (And.intro hkd hks)
        clear hkd hks
        gi_wp2_with fail
        refine ⟨trivial, ?_⟩
        refine (callsIn_wide.2 hIK.out).mono ?_
        rintro e w4 ⟨rfl, hw4⟩
        have hw4' := hw4.symm
        subst hw4'
        clear hw4
        gi_upto_if 33 with fail
        gi_cut [5] from 33 (fun s5 wx => s5 = .int .i64 (bindK kd) ∧ wx = W3)
        case first =>
          cases hi : isKd kd with
          | true =>
            obtain ⟨kn, rfl, hkn13⟩ : ∃ kn : Nat, kd = kn ∧ kn < 13 := by
              unfold isKd at hi
              simp at hi
              exact ⟨kd.toNat, by omega, by omega⟩
            have ht := HS.out kn hkn13
            gi_wp2_with fail
            gi_meet
            case rel => exact ⟨rfl, rfl⟩
          | false =>
            have hb0 : bindK kd = 0 := by
              unfold isKd at hi
              unfold bindK
              rw [if_neg, if_neg]
              · rintro rfl; simp at hi
              · rintro (rfl | rfl | rfl) <;> simp at hi
            gi_wp2_with fail
            gi_meet
            case rel => exact ⟨by rw [hb0]; rfl, rfl⟩
        case rest =>
          obtain ⟨rfl, rfl⟩ := hcut
          clear hIK
          obtain ⟨X3, hKR0⟩ : ∃ X3, KR W.heap.size n₀ Bt Wr.heap.size g w J X3 (pre ++ [x]) st0 c (.cells #[.pointer (some ⟨x.blk, x.off, none⟩), .int .i64 x.nd.b, .int .i64 x.nd.d] 85) wc :=
            ⟨_, (hST.out.pop).move HG3.out, .inl hXg, hJ3, hkW3, HB3.out, by omega, by omega, by omega⟩
          have HKR := Lib.hid hKR0
          clear hKR0
          gi_wp2_with fail
          gi_loopw [3, 6] (fun v i wx => ∃ (m : Nat) (X' : Nat → Prop) (g' c' : Nat), m ≤ ks.length ∧ i = .int .i64 ((m : Int) - 1) ∧ v = .slice (some ⟨g', 0, none⟩) (st0.length + (ks.length - m)) c' ∧
              KR W.heap.size n₀ Bt Wr.heap.size g' w J X' (pre ++ [x]) (st0 ++ ((kidsX kd x.nd.b x.nd.d kb ko 0 ks).drop m).reverse) c' (.cells #[.pointer (some ⟨x.blk, x.off, none⟩), .int .i64 x.nd.b, .int .i64 x.nd.d] 85) wx)
            (fun _ i _ => (intOf i + 1).toNat)
          case atStart =>
            refine ⟨ks.length, X3, g, c, Nat.le_refl _, ?_, by rw [Nat.sub_self]; rfl, ?_⟩
            · first | rfl | go_num
            · rw [List.drop_of_length_le (by rw [kidsX_length]; exact Nat.le_refl _), List.reverse_nil, List.append_nil]
              exact HKR.out
          case round =>
            obtain ⟨m, X', g', c', hm', rfl, rfl, hkr⟩ := hrel
            rcases Nat.eq_zero_or_pos m with rfl | hmp
            · have HR := Lib.hid hkr
              clear hkr
              gi_wp2_with fail
              have hNR : NR W.heap.size n₀ Bt t J w (k - 1) (.slice (some ⟨g', 0, none⟩) (st0.length + (ks.length - 0)) c') wr := by
                obtain ⟨rfl, rfl⟩ := HKD.out
                have hR := HR.out
                rw [List.drop_zero] at hR
                have hl : (kidsX x.nd.t.kind x.nd.b x.nd.d kb ko 0 x.nd.t.kids).reverse.length = x.nd.t.kids.length := by rw [List.length_reverse, kidsX_length]
                refine ⟨X', pre ++ [x], st0 ++ (kidsX x.nd.t.kind x.nd.b x.nd.d kb ko 0 x.nd.t.kids).reverse, g', c', ?_, ?_, hR.x, hR.j, hR.k, hR.sz, ?_, ?_, ?_⟩
                · rw [List.length_append, hl, Nat.sub_zero]
                · rw [Nat.sub_zero, show st0.length + x.nd.t.kids.length = (st0 ++ (kidsX x.nd.t.kind x.nd.b x.nd.d kb ko 0 x.nd.t.kids).reverse).length by rw [List.length_append, hl]]
                  exact hR.stk
                · intro y hy
                  rw [List.length_append, List.length_singleton]
                  rcases List.mem_append.1 hy with hy | hy
                  · have h := hAL.out y (List.mem_append.2 (.inl hy))
                    exact ⟨h.1, h.2.1, by omega⟩
                  · have h := hAL.out x (by simp)
                    obtain ⟨e1, e2⟩ := kidsX_bd _ _ _ _ _ _ _ y (List.mem_reverse.1 hy)
                    have hn : NodeAt w n₀ Bt y := HN.out y (List.mem_reverse.1 hy)
                    exact ⟨hn, by omega, by omega⟩
                · have h := hPR.out
                  rw [List.map_append, List.map_singleton, rest_push] at h
                  rw [List.map_append, List.map_singleton, List.map_append, List.map_reverse, kidsX_nd, List.append_assoc]
                  exact h
                · have h := hKK.out
                  rw [List.map_append, List.map_singleton, rest_push, List.length_cons] at h
                  rw [List.map_append, List.map_reverse, kidsX_nd, h]
                  rfl
              have hkp : 0 < k := by
                have h := hKK.out
                rw [List.map_append, List.map_singleton, rest_push, List.length_cons] at h
                omega
              refine ⟨⟨_, hNR⟩, ?_⟩
              have h1 := NR_le hNR
              have h2 := hm.out
              omega
            · obtain ⟨m, rfl⟩ : ∃ m', m = m' + 1 := ⟨m - 1, by omega⟩
              rw [show ((m + 1 : Nat) : Int) - 1 = (m : Int) by omega]
              obtain ⟨rfl, hkb⟩ := HK.out (by omega)
              have hkc : ∀ (p : Addr) (v : Value), (p.block < n₀ ∨ p.block = Bt) → w.cell? p = some v → wr.cell? p = some v := fun p v hp hv => (hkr.k.cell hp).trans hv
              have hz4 := hkc ⟨x.blk, x.off + 4, none⟩ _ HXB.out HQ4.out
              have hbx := hkr.box
              have hn0' : wr.cell? ⟨Wr.heap.size, 0, none⟩ = some (.pointer (some ⟨x.blk, x.off, none⟩)) := by simp [World.cell?, hbx]
              have hn1' : wr.cell? ⟨Wr.heap.size, 1, none⟩ = some (.int .i64 x.nd.b) := by simp [World.cell?, hbx]
              have hn2' : wr.cell? ⟨Wr.heap.size, 2, none⟩ = some (.int .i64 x.nd.d) := by simp [World.cell?, hbx]
              have hbl := (Array.getElem?_eq_some_iff.1 hbx).1
              have hxl : x.blk < wr.heap.size := World.block_lt_of_cell? wr ⟨x.blk, x.off + 4, none⟩ hz4
              have hz4a : ∀ o, (wr.alloc o).cell? ⟨x.blk, x.off + 4, none⟩ = some (.slice (some ⟨kb, ko, none⟩) ks.length ck) := fun o => (World.cell?_alloc_lt wr o ⟨x.blk, x.off + 4, none⟩ hxl).trans hz4
              have hn0a : ∀ o, (wr.alloc o).cell? ⟨Wr.heap.size, 0, none⟩ = some (.pointer (some ⟨x.blk, x.off, none⟩)) := fun o => (World.cell?_alloc_lt wr o ⟨Wr.heap.size, 0, none⟩ hbl).trans hn0'
              have hn1a : ∀ o, (wr.alloc o).cell? ⟨Wr.heap.size, 1, none⟩ = some (.int .i64 x.nd.b) := fun o => (World.cell?_alloc_lt wr o ⟨Wr.heap.size, 1, none⟩ hbl).trans hn1'
              have hn2a : ∀ o, (wr.alloc o).cell? ⟨Wr.heap.size, 2, none⟩ = some (.int .i64 x.nd.d) := fun o => (World.cell?_alloc_lt wr o ⟨Wr.heap.size, 2, none⟩ hbl).trans hn2'
              have HR := Lib.hid hkr
              have HKC := Lib.hid hkc
              clear hkr hkc hbx hq0 hq4 hn0 hn1 hn2 hsh hk hr h0
              obtain ⟨stk, hstk⟩ : ∃ stk, stk = st0 ++ ((kidsX kd x.nd.b x.nd.d kb ko 0 ks).drop (m + 1)).reverse := ⟨_, rfl⟩
              rw [← hstk] at HR
              have hkl : stk.length = st0.length + (ks.length - (m + 1)) := by rw [hstk, List.length_append, List.length_reverse, List.length_drop, kidsX_length]
              have HSK : Hid (∀ wy, wr.grownBy wy none → wy.ownsRow W.heap.size 85 3 (.slice (some ⟨g', 0, none⟩) (st0.length + (ks.length - (m + 1))) c') (st0.length + (ks.length - (m + 1))) (flatN stk)) := Lib.hid (fun wy hg => by
                have h := (HR.out.new hJ hg).stk
                unfold Stk at h
                rw [hkl] at h
                exact h)
              have hml : m < ks.length := by omega
              have hstk2 : st0 ++ ((kidsX kd x.nd.b x.nd.d kb ko 0 ks).drop m).reverse = stk ++ [⟨kidNd kd x.nd.b x.nd.d m ks[m], kb, ko + m * 5⟩] := by
                have hq := kidsX_at kd x.nd.b x.nd.d kb ko ks 0 m _ (List.getElem?_eq_getElem hml)
                rw [Nat.zero_add] at hq
                obtain ⟨h1, h2⟩ := List.getElem?_eq_some_iff.1 hq
                rw [← List.getElem_cons_drop h1, h2, List.reverse_cons, ← List.append_assoc, hstk]
              have HF : Hid (∀ (w6 w7 : World) (g2 c2 : Nat) (bi : Int), bi = ((x.nd.b + (if 0 < m ∧ m = bindK kd then 1 else 0) : Nat) : Int) → wr.grownBy w6 none → (g2 = g' ∨ g2 = w6.heap.size) →
                  w7.ownsRow W.heap.size 85 3 (.slice (some ⟨g2, 0, none⟩) (st0.length + (ks.length - (m + 1)) + 1) c2) (st0.length + (ks.length - (m + 1)) + 1) (flatN stk ++ [.pointer (some ⟨kb, ko + m * 5, none⟩), .int .i64 bi, .int .i64 (x.nd.d + 1)]) → w6.grownBy w7 (some g') →
                  ∃ X7, KR W.heap.size n₀ Bt Wr.heap.size g2 w J X7 (pre ++ [x]) (st0 ++ ((kidsX kd x.nd.b x.nd.d kb ko 0 ks).drop m).reverse) c2 (.cells #[.pointer (some ⟨x.blk, x.off, none⟩), .int .i64 x.nd.b, .int .i64 x.nd.d] 85) w7) := Lib.hid (fun w6 w7 g2 c2 bi hbi hg6 hg2 hown hgr => by
                subst hbi
                rw [hstk2]
                refine ⟨_, (HR.out.new hJ hg6).push hJ hgr hg2 ?_⟩
                rw [hkl]
                exact hown)
              have hszr : W.heap.size ≤ wr.heap.size := HR.out.sz
              clear hstk2 hstk hkl
              gi_wp2_with fail
              gi_region
              obtain ⟨i0, hi, hz0, hz1, hz2⟩ := info_parts info_node
              by_cases hb : 0 < m ∧ m = bindK kd
              · have d1 : 0 < m := hb.1
                have d2 : ((m : Int) == (bindK kd : Int)) = true := by rw [beq_iff_eq]; omega
                have d3 : (m == bindK kd) = true := by rw [beq_iff_eq]; omega
                have HB := Lib.hid hb
                clear hb
                gi_wp2_with (gi_at_builtin; refine wpListIn_append_stk _ rfl _ _ 109 rfl W.heap.size 85 i0 (.agg #[.pointer none, .int .i64 0, .int .i64 0]) 3 24 Tryd.underlying109 hi hz0 hz1 hz2 rfl (by decide) g' (st0.length + (ks.length - (m + 1))) c' (flatN stk) rfl (HSK.out _ ?gr) _ 1 1 [.pointer (some ⟨kb, ko + m * 5, none⟩), .int .i64 (x.nd.b + 1), .int .i64 (x.nd.d + 1)] rfl rfl ?c1 ?c2 ?c3 ?c4 ?c5 ?_)
                case gr => exact grown_node _ _ _
                case c1 => exact cell_three_new _ _ _ _ _ _
                case c2 => intro u hu; simp at hu; rcases hu with rfl | rfl | rfl <;> rfl
                case c3 => unfold maxLen; omega
                case c4 => omega
                case c5 => simp; omega
                intro g2 c2 w7 hg2 hown7 hgrow7
                obtain ⟨X7, hk7⟩ := HF.out _ _ g2 c2 _ (by rw [if_pos HB.out]; rfl) (grown_node _ _ _) (by simpa using hg2) hown7 hgrow7
                have HK7 := Lib.hid hk7
                clear hk7 hown7 hgrow7 hg2
                gi_wp2_with fail
                go_roundw
                case rel => exact ⟨m, X7, g2, c2, by omega, by go_num, by congr 1; omega, HK7.out⟩
                case measure => first | (simp [intOf]; done) | (simp [intOf]; omega)
              · rcases Nat.eq_zero_or_pos m with hm0 | hmp2
                · have d1 : ¬ 0 < m := by omega
                  clear hm0
                  have HB := Lib.hid hb
                  clear hb
                  gi_wp2_with (gi_at_builtin; refine wpListIn_append_stk _ rfl _ _ 109 rfl W.heap.size 85 i0 (.agg #[.pointer none, .int .i64 0, .int .i64 0]) 3 24 Tryd.underlying109 hi hz0 hz1 hz2 rfl (by decide) g' (st0.length + (ks.length - (m + 1))) c' (flatN stk) rfl (HSK.out _ ?gr) _ 1 1 [.pointer (some ⟨kb, ko + m * 5, none⟩), .int .i64 (x.nd.b), .int .i64 (x.nd.d + 1)] rfl rfl ?c1 ?c2 ?c3 ?c4 ?c5 ?_)
                  case gr => exact grown_node _ _ _
                  case c1 => exact cell_three_new _ _ _ _ _ _
                  case c2 => intro u hu; simp at hu; rcases hu with rfl | rfl | rfl <;> rfl
                  case c3 => unfold maxLen; omega
                  case c4 => omega
                  case c5 => simp; omega
                  intro g2 c2 w7 hg2 hown7 hgrow7
                  obtain ⟨X7, hk7⟩ := HF.out _ _ g2 c2 _ (by rw [if_neg HB.out]; rfl) (grown_node _ _ _) (by simpa using hg2) hown7 hgrow7
                  have HK7 := Lib.hid hk7
                  clear hk7 hown7 hgrow7 hg2
                  gi_wp2_with fail
                  go_roundw
                  case rel => exact ⟨m, X7, g2, c2, by omega, by go_num, by congr 1; omega, HK7.out⟩
                  case measure => first | (simp [intOf]; done) | (simp [intOf]; omega)
                · have d3 : (m == bindK kd) = false := by rw [beq_eq_false_iff_ne]; omega
                  have d2 : ((m : Int) == (bindK kd : Int)) = false := by rw [beq_eq_false_iff_ne]; omega
                  have HB := Lib.hid hb
                  clear hb
                  gi_wp2_with (gi_at_builtin; refine wpListIn_append_stk _ rfl _ _ 109 rfl W.heap.size 85 i0 (.agg #[.pointer none, .int .i64 0, .int .i64 0]) 3 24 Tryd.underlying109 hi hz0 hz1 hz2 rfl (by decide) g' (st0.length + (ks.length - (m + 1))) c' (flatN stk) rfl (HSK.out _ ?gr) _ 1 1 [.pointer (some ⟨kb, ko + m * 5, none⟩), .int .i64 (x.nd.b), .int .i64 (x.nd.d + 1)] rfl rfl ?c1 ?c2 ?c3 ?c4 ?c5 ?_)
                  case gr => exact grown_node _ _ _
                  case c1 => exact cell_three_new _ _ _ _ _ _
                  case c2 => intro u hu; simp at hu; rcases hu with rfl | rfl | rfl <;> rfl
                  case c3 => unfold maxLen; omega
                  case c4 => omega
                  case c5 => simp; omega
                  intro g2 c2 w7 hg2 hown7 hgrow7
                  obtain ⟨X7, hk7⟩ := HF.out _ _ g2 c2 _ (by rw [if_neg HB.out]; rfl) (grown_node _ _ _) (by simpa using hg2) hown7 hgrow7
                  have HK7 := Lib.hid hk7
                  clear hk7 hown7 hgrow7 hg2
                  gi_wp2_with fail
                  go_roundw
                  case rel => exact ⟨m, X7, g2, c2, by omega, by go_num, by congr 1; omega, HK7.out⟩
                  case measure => first | (simp [intOf]; done) | (simp [intOf]; omega)
      · gi_wp2
        refine bodyPost_ret (results_none rfl _ _ _) rfl ?_
        refine ⟨⟨_, rfl⟩, .inr ⟨pre ++ [x], rest (st0.map Nx.nd ++ (kidsNd x.nd.t.kind x.nd.b x.nd.d 0 x.nd.t.kids).reverse), ?_, hJx3⟩⟩
        rw [← hPR.out, List.map_append, List.map_append, List.append_assoc, List.map_singleton, rest_push]
        rfl
end Go.Proofs.YtobaeeobfcffoaaDoor
