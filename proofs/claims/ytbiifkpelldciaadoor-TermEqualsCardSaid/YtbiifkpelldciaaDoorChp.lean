/- Check. -/
import Derived.Test.YtbiifkpelldciaaDoorDpp
import Derived.Test.YtbiifkpelldciaaDoorSch
namespace Go.Proofs.YtbiifkpelldciaaDoor
open Go.RowKit Go.Shelf
attribute [local go_sem] Oper.semAt_some

/-- The error of a node at its place. -/
def chkT (vars params metas levels : Int) (n : Nd) : Int := match n.t with | .mk k i nm ls ks => chkN vars params metas levels k i n.b nm ls ks.length
/-- The first error of nodes. -/
def chkL (vars params metas levels : Int) : List Nd → Int
  | [] => 0
  | n :: r => if chkT vars params metas levels n = 0 then chkL vars params metas levels r else chkT vars params metas levels n
theorem chkL_zero {vars params metas levels : Int} : ∀ {l : List Nd}, (∀ n ∈ l, chkT vars params metas levels n = 0) → chkL vars params metas levels l = 0
  | [], _ => rfl
  | n :: r, h => by rw [chkL, if_pos (h n (List.mem_cons_self ..)), chkL_zero (fun m hm => h m (List.mem_cons_of_mem _ hm))]
theorem chkL_at {vars params metas levels : Int} {n : Nd} (hn : chkT vars params metas levels n ≠ 0) : ∀ {l r : List Nd}, (∀ m ∈ l, chkT vars params metas levels m = 0) → chkL vars params metas levels (l ++ n :: r) = chkT vars params metas levels n
  | [], r, _ => by rw [List.nil_append, chkL, if_neg hn]
  | m :: l, r, h => by rw [List.cons_append, chkL, if_pos (h m (List.mem_cons_self ..)), chkL_at hn (fun q hq => h q (List.mem_cons_of_mem _ hq))]
/-- The error of a term in a scope. -/
def chkC (vars params metas levels : Int) (t : Tm) : Int :=
  if chkL (max 0 vars) (max 0 params) (max 0 metas) (max 0 levels) (preT t 0 1) ≠ 0 then chkL (max 0 vars) (max 0 params) (max 0 metas) (max 0 levels) (preT t 0 1)
  else if 4096 < szT t then 5 else if 200 < dpT t then 7 else 0
/-- The node's cells and its levels. -/
theorem NodeAt.full {w : World} {n₀ Bt : Nat} {x : Nx} (h : NodeAt w n₀ Bt x) : ∃ (k i : Int) (nm : ByteArray) (ls : List (Int × List (Int × Int))) (ks : List Tm) (AL : Option Addr) (cl : Nat) (AK : Option Addr) (ck : Nat), x.nd.t = .mk k i nm ls ks ∧
    w.cell? ⟨x.blk, x.off, none⟩ = some (.int .i64 k) ∧ w.cell? ⟨x.blk, x.off + 1, none⟩ = some (.int .i64 i) ∧ w.cell? ⟨x.blk, x.off + 2, none⟩ = some (.string nm) ∧ w.cell? ⟨x.blk, x.off + 3, none⟩ = some (.slice AL ls.length cl) ∧ w.cell? ⟨x.blk, x.off + 4, none⟩ = some (.slice AK ks.length ck) ∧ LvsA w n₀ AL ls := by
  obtain ⟨⟨t, b, d⟩, blk, off⟩ := x
  obtain ⟨hb, c0, c1, c2, c3, c4, h0, h1, h2, h3, h4, ht⟩ := h
  cases t with
  | mk k i nm ls ks =>
    rw [TmV] at ht
    obtain ⟨AL, cl, AK, ck, hv, hl, _⟩ := ht
    simp only [Value.agg.injEq, Array.mk.injEq, List.cons.injEq, and_true] at hv
    obtain ⟨rfl, rfl, rfl, rfl, rfl⟩ := hv
    exact ⟨k, i, nm, ls, ks, AL, cl, AK, ck, rfl, h0, h1, h2, h3, h4, hl⟩

set_option maxRecDepth 100000 in
set_option maxHeartbeats 8000000 in
theorem check_any (t : Tm) (v : Value) (vars params metas levels : Int) (B : Nat) (w : World) (hv : TmV w B t v) (hB : B ≤ w.heap.size) (hB0 : 0 < B) (hsh : Shapes w) (hsz : szT t ≤ 1000000000) :
    Calls Tryd.prog 34 #[v, .int .i64 vars, .int .i64 params, .int .i64 metas, .int .i64 levels] w fun e w' => e = .returned (.int .i64 (chkC vars params metas levels t)) ∧ Below w.heap.size w w' := by
  have HV := Lib.hid hv
  obtain ⟨k, i, nm, AL, nl, cl, AK, ck, rfl, _, _⟩ := hv.open_
  clear hv
  refine (callsIn_wide (n := 6)).1 ?_
  refine callsIn_of_wp_marks Tryd.func34 rfl trivial ?_ rfl
  simp only [Tryd.ntmps34, List.size_toArray, List.length_cons, List.length_nil, Nat.reduceAdd, Nat.reduceSub, Array.replicate_succ, Array.replicate_zero, List.push_toArray, List.append_toArray, List.nil_append, List.cons_append]
  gi_upto_region 1 with fail
  gi_cut [11] from 16 (fun s11 wx => s11 = .pointer (some ⟨w.heap.size + 1 + 1, 0, none⟩) ∧ wx = ((w.alloc (.cells #[.int .i64 k, .int .i64 i, .string nm, .slice AL nl cl, .slice AK t.kids.length ck] 27)).alloc (.cells #[.int .i64 0] 31)).alloc (.cells #[.int .i64 (max 0 vars), .int .i64 (max 0 params), .int .i64 (max 0 metas), .int .i64 (max 0 levels)] 89))
  case first =>
    gi_wp2_with fail
    all_goals
      gi_meet
      case rel =>
        refine ⟨rfl, ?_⟩
        congr 9 <;> omega
  case rest =>
    obtain ⟨rfl, rfl⟩ := hcut
    gi_wp2_with fail
    obtain ⟨W0, hW0⟩ : ∃ W0, W0 = (((((w.alloc (.cells #[.int .i64 k, .int .i64 i, .string nm, .slice AL nl cl, .slice AK t.kids.length ck] 27)).alloc (.cells #[.int .i64 0] 31)).alloc (.cells #[.int .i64 (max 0 vars), .int .i64 (max 0 params), .int .i64 (max 0 metas), .int .i64 (max 0 levels)] 89)).alloc (.cells #[.int .i64 0] 3)).alloc (.cells #[.int .i64 0] 3)) := ⟨_, rfl⟩
    rw [← hW0]
    have hs0 : W0.heap.size = w.heap.size + 1 + 1 + 1 + 1 + 1 := by rw [hW0]; simp
    have hb0 : Below w.heap.size w W0 := by rw [hW0]; exact (((((Below.refl _ _).alloc (Nat.le_refl _) _).alloc (by simp) _).alloc (by simp; omega) _).alloc (by simp; omega) _).alloc (by simp; omega) _
    have q1 : W0.heap[w.heap.size + 1]? = some (.cells #[.int .i64 0] 31 (0, 0)) := by
      rw [hW0, Below.heap_alloc _ _ _ (by simp only [World.size_alloc]; omega), Below.heap_alloc _ _ _ (by simp only [World.size_alloc]; omega), Below.heap_alloc _ _ _ (by simp only [World.size_alloc]; omega)]
      have h := World.alloc_heap_new (w.alloc (.cells #[.int .i64 k, .int .i64 i, .string nm, .slice AL nl cl, .slice AK t.kids.length ck] 27)) (.cells #[.int .i64 0] 31)
      rwa [World.size_alloc] at h
    have q2 : W0.heap[w.heap.size + 1 + 1]? = some (.cells #[.int .i64 (max 0 vars), .int .i64 (max 0 params), .int .i64 (max 0 metas), .int .i64 (max 0 levels)] 89 (0, 0)) := by
      rw [hW0, Below.heap_alloc _ _ _ (by simp only [World.size_alloc]; omega), Below.heap_alloc _ _ _ (by simp only [World.size_alloc]; omega)]
      have h := World.alloc_heap_new ((w.alloc (.cells #[.int .i64 k, .int .i64 i, .string nm, .slice AL nl cl, .slice AK t.kids.length ck] 27)).alloc (.cells #[.int .i64 0] 31)) (.cells #[.int .i64 (max 0 vars), .int .i64 (max 0 params), .int .i64 (max 0 metas), .int .i64 (max 0 levels)] 89)
      simpa only [World.size_alloc] using h
    have q3 : W0.heap[w.heap.size + 1 + 1 + 1]? = some (.cells #[.int .i64 0] 3 (0, 0)) := by
      rw [hW0, Below.heap_alloc _ _ _ (by simp)]
      have h := World.alloc_heap_new (((w.alloc (.cells #[.int .i64 k, .int .i64 i, .string nm, .slice AL nl cl, .slice AK t.kids.length ck] 27)).alloc (.cells #[.int .i64 0] 31)).alloc (.cells #[.int .i64 (max 0 vars), .int .i64 (max 0 params), .int .i64 (max 0 metas), .int .i64 (max 0 levels)] 89)) (.cells #[.int .i64 0] 3)
      simpa only [World.size_alloc] using h
    have q4 : W0.heap[w.heap.size + 1 + 1 + 1 + 1]? = some (.cells #[.int .i64 0] 3 (0, 0)) := by
      rw [hW0]
      have h := World.alloc_heap_new ((((w.alloc (.cells #[.int .i64 k, .int .i64 i, .string nm, .slice AL nl cl, .slice AK t.kids.length ck] 27)).alloc (.cells #[.int .i64 0] 31)).alloc (.cells #[.int .i64 (max 0 vars), .int .i64 (max 0 params), .int .i64 (max 0 metas), .int .i64 (max 0 levels)] 89)).alloc (.cells #[.int .i64 0] 3)) (.cells #[.int .i64 0] 3)
      simpa only [World.size_alloc] using h
    clear hW0
    refine ⟨trivial, ?_⟩
    refine (nodes_in _ k i nm AL nl cl AK _ ck _).mono ?_
    rintro e w3 ⟨rfl, hw3⟩
    rw [hs0] 
    have hb3 : Below w.heap.size w w3 := by rw [hw3]; exact hb0.alloc (by omega) _
    have hbW : Below W0.heap.size W0 w3 := by rw [hw3]; exact (Below.refl _ _).alloc (Nat.le_refl _) _
    have hs3 : w.heap.size + 1 + 1 + 1 + 1 + 1 < w3.heap.size := by rw [hw3]; simp; omega
    have ht3 : w3.heap[w.heap.size + 1 + 1 + 1 + 1 + 1]? = some (.cells #[.int .i64 k, .int .i64 i, .string nm, .slice AL nl cl, .slice AK t.kids.length ck] 27 (0, 0)) := by
      have h := World.alloc_heap_new W0 (.cells #[.int .i64 k, .int .i64 i, .string nm, .slice AL nl cl, .slice AK t.kids.length ck] 27)
      rw [← hw3, hs0] at h
      exact h
    replace q1 := (hbW.block _ (by omega)).trans q1
    replace q2 := (hbW.block _ (by omega)).trans q2
    replace q3 := (hbW.block _ (by omega)).trans q3
    replace q4 := (hbW.block _ (by omega)).trans q4
    have hcell : ∀ j u, (#[Value.int .i64 k, .int .i64 i, .string nm, .slice AL nl cl, .slice AK t.kids.length ck] : Array Value)[j]? = some u → w3.cell? ⟨w.heap.size + 1 + 1 + 1 + 1 + 1, j, none⟩ = some u := fun j u h => (cell_of_row _ _ _ _ _ _ ht3).trans h
    have hroot : NodeAt w3 (w.heap.size + 1 + 1 + 1) (w.heap.size + 1 + 1 + 1 + 1 + 1) ⟨⟨t, 0, 1⟩, w.heap.size + 1 + 1 + 1 + 1 + 1, 0⟩ :=
      ⟨.inr rfl, _, _, _, _, _, hcell 0 _ rfl, hcell 1 _ rfl, hcell 2 _ rfl, hcell 3 _ rfl, hcell 4 _ rfl, ((HV.out.more hB).below hb3 (Nat.le_refl _)).more (by omega)⟩
    have hsh3 : Shapes w3 := hsh.below hb3 (by omega)
    clear hw3 ht3 hcell hsh hb0 hbW hs0
    gi_wp2_with fail
    refine wpIn_rangeB rfl (by decide) (gf := 62) (lb := #[.pointer (some ⟨w.heap.size + 1 + 1 + 1 + 1 + 1, 0, none⟩)]) rfl trivial (enters_of Tryd.func62 (by kernel_rfl) rfl)
      (Kp := KAt (w.heap.size + 1 + 1 + 1) (w.heap.size + 1 + 1 + 1 + 1 + 1)) (nd_seq 5 (by decide) (w.heap.size + 1 + 1 + 1 + 1 + 1) (w.heap.size + 1 + 1 + 1) t w3 hroot hsh3.s4 (by omega) hsz ⟨by omega, by omega⟩) (fun h k => KAt.trans h k)
      (fun W l o h1 h2 => KAt.grown (grownBy_putObj' W l o) (by omega) (by omega) (fun r e => by cases e; omega)) (fun _ => rfl)
      (fun pre W => Boxed W (w.heap.size + 1 + 1 + 1) 3 (.int .i64 (pre.length : Int)) ∧ Boxed W (w.heap.size + 1 + 1 + 1 + 1) 3 (.int .i64 (maxD 0 (pre.map Nx.nd) : Nat)) ∧ KAt (w.heap.size + 1 + 1 + 1) (w.heap.size + 1 + 1 + 1 + 1 + 1) w3 W ∧ ∀ a ∈ pre, chkT (max 0 vars) (max 0 params) (max 0 metas) (max 0 levels) a.nd = 0)
      (fun c pre W => c = .ret ∧ Below w.heap.size w W ∧ ∃ p x, pre = p ++ [x] ∧ (∀ a ∈ p, chkT (max 0 vars) (max 0 params) (max 0 metas) (max 0 levels) a.nd = 0) ∧ chkT (max 0 vars) (max 0 params) (max 0 metas) (max 0 levels) x.nd ≠ 0 ∧ Boxed W (w.heap.size + 1) 31 (.int .i64 (chkT (max 0 vars) (max 0 params) (max 0 metas) (max 0 levels) x.nd)))
      ?hI ?hIx ⟨q3, q4, KAt.refl _ _ _, fun n h => by cases h⟩
      (fun x a' W => ∃ Bx, w3.heap.size + 2 ≤ Bx ∧ W.heap[Bx]? = some (.cells #[.pointer (some ⟨x.blk, x.off, none⟩), .int .i64 x.nd.b, .int .i64 x.nd.d] 68 (0, 0)) ∧ a' = { tmps := #[.agg #[.int .i64 k, .int .i64 i, .string nm, .slice AL nl cl, .slice AK t.kids.length ck], .int .i64 vars, .int .i64 params, .int .i64 metas, .int .i64 levels, .pointer (some ⟨w.heap.size, 0, none⟩), undef, undef, undef, undef, .pointer (some ⟨w.heap.size + 1, 0, none⟩), .pointer (some ⟨w.heap.size + 1 + 1, 0, none⟩), .pointer (some ⟨w.heap.size + 1 + 1 + 1, 0, none⟩), .pointer (some ⟨w.heap.size + 1 + 1 + 1 + 1, 0, none⟩), .pointer (some ⟨Bx, 0, none⟩), undef, u16, u17, u18, u19, u20, u21, u22, u23, u24, .agg #[.int .i64 k, .int .i64 i, .string nm, .slice AL nl cl, .slice AK t.kids.length ck], .func (.func 62) #[] #[.pointer (some ⟨w.heap.size + 1 + 1 + 1 + 1 + 1, 0, none⟩)], .agg #[.pointer (some ⟨x.blk, x.off, none⟩), .int .i64 x.nd.b, .int .i64 x.nd.d], u28, u29, u30, u31, u32, u33, u34, u35, u36, u37, u38, u39, u40, u41, u42, u43, u44, u45], defers := [] })
      (fun x a' W o ⟨Bx, h1, h2, h3⟩ => ⟨Bx, h1, (World.putObj_heap_other (by omega)).trans h2, h3⟩) ?assign ?body ?done ?stop
    case hI =>
      rintro pre W W' ⟨h1, h2, h3, h4⟩ hb
      exact ⟨(hb.block _ (by omega)).trans h1, (hb.block _ (by omega)).trans h2, h3.trans ⟨hb.mono (by omega), hb.block _ (by omega)⟩, h4⟩
    case hIx =>
      rintro c pre W W' ⟨h1, h2, p, x, h3, h4, h5, h6⟩ hb
      exact ⟨h1, h2.trans (hb.mono (by omega)), p, x, h3, h4, h5, (hb.block _ (by omega)).trans h6⟩
    case assign =>
      intro l pre x W K hs hgd hi hK
      simp only [encN]
      gi_wp2_with fail
      refine hK _ _ (HighB.grown (World.grownBy_alloc _ _ none) (fun r e => by cases e)) (KAt.grown (World.grownBy_alloc _ _ none) (by omega) (by omega) (fun r e => by cases e)) ⟨hi.1.alloc _, hi.2.1.alloc _, hi.2.2.1.trans (KAt.grown (World.grownBy_alloc _ _ none) (by omega) (by omega) (fun r e => by cases e)), hi.2.2.2⟩ ⟨W.heap.size, hs, World.alloc_heap_new _ _, ?_⟩
      rfl
    case body =>
      rintro pre x a' W hs hgd ⟨hc, hd, hk, hz⟩ ⟨Bx, hBx, hcx, rfl⟩ hlt
      have hxw := hgd.keep hk
      obtain ⟨xk, xi, xnm, xls, xks, xAL, xcl, xAK, xck, hxt, h0, h1, h2, h3, h4, hlv⟩ := hxw.full
      have hshW : Shapes W := hsh3.below hk.below (by omega)
      have q1W : W.heap[w.heap.size + 1]? = some (.cells #[.int .i64 0] 31 (0, 0)) := (hk.below.block _ (by omega)).trans q1
      have q2W : W.heap[w.heap.size + 1 + 1]? = some (.cells #[.int .i64 (max 0 vars), .int .i64 (max 0 params), .int .i64 (max 0 metas), .int .i64 (max 0 levels)] 89 (0, 0)) := (hk.below.block _ (by omega)).trans q2
      have e0 : W.cell? ⟨w.heap.size + 1 + 1, 0, none⟩ = some (.int .i64 (max 0 vars)) := cell_of_row _ _ _ _ _ _ q2W
      have e1 : W.cell? ⟨w.heap.size + 1 + 1, 1, none⟩ = some (.int .i64 (max 0 params)) := cell_of_row _ _ _ _ _ _ q2W
      have e2 : W.cell? ⟨w.heap.size + 1 + 1, 2, none⟩ = some (.int .i64 (max 0 metas)) := cell_of_row _ _ _ _ _ _ q2W
      have e3 : W.cell? ⟨w.heap.size + 1 + 1, 3, none⟩ = some (.int .i64 (max 0 levels)) := cell_of_row _ _ _ _ _ _ q2W
      have f0 : W.cell? ⟨Bx, 0, none⟩ = some (.pointer (some ⟨x.blk, x.off, none⟩)) := cell_of_row _ _ _ _ _ _ hcx
      have f1 : W.cell? ⟨Bx, 1, none⟩ = some (.int .i64 x.nd.b) := cell_of_row _ _ _ _ _ _ hcx
      have f2 : W.cell? ⟨Bx, 2, none⟩ = some (.int .i64 x.nd.d) := cell_of_row _ _ _ _ _ _ hcx
      have hBl : Bx < W.heap.size := (Array.getElem?_eq_some_iff.1 hcx).1
      have hCK := Lib.hid (schk_any x.blk x.off (max 0 vars) (max 0 params) (max 0 metas) (max 0 levels) xk xi x.nd.b x.nd.d xnm xAL xcl xls xAK xks.length xck (w.heap.size + 1 + 1 + 1) W h0 h1 h2 h3 h4 hlv (by omega) hshW (by omega))
      have HT : Hid (chkT (max 0 vars) (max 0 params) (max 0 metas) (max 0 levels) x.nd = chkN (max 0 vars) (max 0 params) (max 0 metas) (max 0 levels) xk xi x.nd.b xnm xls xks.length) := Lib.hid (by unfold chkT; rw [hxt])
      have HZ := Lib.hid hz
      clear h0 h1 h2 h3 h4 hlv hshW hxw hxt hz
      gi_wp2_with fail
      refine ⟨trivial, ?_⟩
      refine (callsIn_wide.2 hCK.out).mono ?_
      clear hCK
      rintro e w2 ⟨rfl, hb2⟩
      obtain ⟨ev, hev⟩ : ∃ ev, chkN (max 0 vars) (max 0 params) (max 0 metas) (max 0 levels) xk xi x.nd.b xnm xls xks.length = ev := ⟨_, rfl⟩
      have HEV := Lib.hid hev
      rw [hev]
      clear hev
      have hs2 := hb2.size
      have hcW := hc
      have hdW := hd
      replace hc : Boxed w2 (w.heap.size + 1 + 1 + 1) 3 (.int .i64 (pre.length : Int)) := (hb2.block _ hc.lt).trans hc
      replace hd : Boxed w2 (w.heap.size + 1 + 1 + 1 + 1) 3 (.int .i64 (maxD 0 (pre.map Nx.nd) : Nat)) := (hb2.block _ hd.lt).trans hd
      have hr : Boxed w2 (w.heap.size + 1) 31 (.int .i64 0) := (hb2.block _ (by omega)).trans q1W
      have hkw2 : KAt (w.heap.size + 1 + 1 + 1) (w.heap.size + 1 + 1 + 1 + 1 + 1) W w2 := ⟨hb2.mono (by omega), hb2.block _ (by omega)⟩
      have hhi : HighB w3.heap.size W w2 := ⟨hb2.size, fun r _ h => hb2.block r h⟩
      have f2' : w2.cell? ⟨Bx, 2, none⟩ = some (.int .i64 x.nd.d) := (hb2.cell (p := ⟨Bx, 2, none⟩) hBl).trans f2
      have hc0 := hc.cell
      have hf0 := hc.frozen
      have hd0 := hd.cell
      have hdf := hd.frozen
      have hr0 := hr.cell
      have hrf := hr.frozen
      have HB2 := Lib.hid hb2
      clear hb2 e0 e1 e2 e3 f0 f1 f2 q1W q2W hcW hdW hcx
      cases hz : (ev == 0) with
      | true =>
        have hz0 : chkT (max 0 vars) (max 0 params) (max 0 metas) (max 0 levels) x.nd = 0 := by rw [HT.out, HEV.out]; simpa using hz
        have HX : Hid (∀ a ∈ pre ++ [x], chkT (max 0 vars) (max 0 params) (max 0 metas) (max 0 levels) a.nd = 0) := Lib.hid (by
          intro n hn
          rcases List.mem_append.1 hn with hn | hn
          · exact HZ.out n hn
          · rw [List.mem_singleton] at hn; rw [hn]; exact hz0)
        clear hz0
        have hS1 : ∀ u1, KAt (w.heap.size + 1 + 1 + 1) (w.heap.size + 1 + 1 + 1 + 1 + 1) w2 (w2.setCell ⟨w.heap.size + 1 + 1 + 1, 0, none⟩ u1) := fun u1 => KAt.grown (grownBy_setCell' _ _ _) (by omega) (by omega) (fun r e => by cases e; omega)
        have hS2 : ∀ (V : World) u1, w2.heap.size ≤ V.heap.size → KAt (w.heap.size + 1 + 1 + 1) (w.heap.size + 1 + 1 + 1 + 1 + 1) V (V.setCell ⟨w.heap.size + 1 + 1 + 1 + 1, 0, none⟩ u1) := fun V u1 hV => KAt.grown (grownBy_setCell' _ _ _) (by omega) (by omega) (fun r e => by cases e; omega)
        have hz1 : ∀ u1, w2.heap.size ≤ (w2.setCell ⟨w.heap.size + 1 + 1 + 1, 0, none⟩ u1).heap.size := fun u1 => (grownBy_setCell' w2 (w.heap.size + 1 + 1 + 1) u1).size
        have HM : Hid (maxD 0 ((pre ++ [x]).map Nx.nd) = max (maxD 0 (pre.map Nx.nd)) x.nd.d) := Lib.hid (by rw [List.map_append, maxD_append]; rfl)
        have HL : Hid ((pre ++ [x]).length = pre.length + 1) := Lib.hid (by rw [List.length_append, List.length_singleton])
        have HKW := Lib.hid (And.intro hkw2 (And.intro hS1 (And.intro hS2 (And.intro hz1 (And.intro hhi (And.intro hk (And.intro hc hd)))))))
        clear hkw2 hS1 hS2 hz1 hhi
        gi_wp2_with fail
        all_goals
          obtain ⟨hkw2, hS1, hS2, hz1, hhi, hk, hc, hd⟩ := HKW.out
          refine ⟨(hhi.trans (HighB.grown (grownBy_setCell' _ _ _) (fun r e => by cases e; omega))).trans (HighB.grown (grownBy_setCell' _ _ _) (fun r e => by cases e; omega)), (hkw2.trans (hS1 _)).trans (hS2 _ _ (hz1 _)), ?_, ?_, hk.trans ((hkw2.trans (hS1 _)).trans (hS2 _ _ (hz1 _))), HX.out⟩
          · rw [HL.out]
            exact (hc.set _).other (by omega) _
          · rw [HM.out]
            first
            | rw [Nat.max_eq_left (by omega)]; exact (hd.other (by omega) _).set _
            | rw [Nat.max_eq_right (by omega)]; exact (hd.other (by omega) _).set _
      | false =>
        have hz0 : chkT (max 0 vars) (max 0 params) (max 0 metas) (max 0 levels) x.nd ≠ 0 := by rw [HT.out, HEV.out]; simpa using hz
        have HX := Lib.hid hz0
        have HKW := Lib.hid (And.intro hk (And.intro hhi (And.intro hr hb3)))
        clear hz0 hkw2 hhi
        gi_wp2_with fail
        obtain ⟨hk, hhi, hr, hb3⟩ := HKW.out
        refine ⟨hhi.trans (HighB.grown (grownBy_setCell' _ _ _) (fun r e => by cases e; omega)), rfl, ?_, pre, x, rfl, HZ.out, HX.out, ?_⟩
        · exact ((hb3.trans (hk.below.mono (by omega))).trans (HB2.out.mono (by omega))).grown (grownBy_setCell' w2 _ _) (by omega) (fun r e => by cases e; omega)
        · rw [HT.out, HEV.out]
          exact hr.set _
    case done =>
      rintro xs W hs hS ⟨hc, hd, hk, hz⟩ hD
      have hl : xs.length = szT t := by
        have h := congrArg List.length hS
        rw [List.length_map, preT_length] at h
        exact h
      have hm : maxD 0 (xs.map Nx.nd) = dpT t := by rw [hS]; exact pre_depth t
      have hc0 := hc.cell
      have hd0 := hd.cell
      rw [hl] at hc0
      rw [hm] at hd0
      have q1W : W.heap[w.heap.size + 1]? = some (.cells #[.int .i64 0] 31 (0, 0)) := (hk.below.block _ (by omega)).trans q1
      have hr : Boxed W (w.heap.size + 1) 31 (.int .i64 0) := q1W
      have hr0 := hr.cell
      have hrf := hr.frozen
      have HC0 : Hid (chkL (max 0 vars) (max 0 params) (max 0 metas) (max 0 levels) (preT t 0 1) = 0) := Lib.hid (chkL_zero (by
        rw [← hS]
        intro n hn
        obtain ⟨a, ha, rfl⟩ := List.mem_map.1 hn
        exact hz a ha))
      have hdn : W.heap.size ≠ 0 := by omega
      have HW := Lib.hid (And.intro hk (And.intro hb3 (And.intro hr hD)))
      clear hz hS hl hm q1W hc hd hk hD
      by_cases hsl : 4096 < szT t
      · have HC : Hid (chkC vars params metas levels t = 5) := Lib.hid (by unfold chkC; rw [if_neg (by rw [HC0.out]; simp), if_pos hsl])
        have hsi : decide ((4096 : Int) < (szT t : Int)) = true := by rw [decide_eq_true_iff]; omega
        gi_wp2_with fail
        obtain ⟨hk, hb3, hr, hD⟩ := HW.out
        have hD' : (W.setCell ⟨w.heap.size + 1, 0, none⟩ (.int .i64 5)).heap[w3.heap.size]? = some (.deferred (some [])) := (Below.heap_setCell _ _ _ _ (by show w3.heap.size ≠ w.heap.size + 1; omega)).trans hD
        refine ⟨by simp, .inl ⟨_, _, rfl, run_takeDeferred hD', ?_⟩⟩
        have hr1 : ((W.setCell ⟨w.heap.size + 1, 0, none⟩ (.int .i64 5)).putObj w3.heap.size (.deferred none)).cell? ⟨w.heap.size + 1, 0, none⟩ = some (.int .i64 5) := (World.cell?_of_block (a := ⟨w.heap.size + 1, 0, none⟩) (World.putObj_heap_other (by show w.heap.size + 1 ≠ w3.heap.size; omega))).trans (hr.set _).cell
        refine ⟨.int .i64 5, by simp [results, Tryd.results34, go_sem, hr1], ret_int HC.out.symm, ?_⟩
        exact (((hb3.trans (hk.below.mono (by omega))).grown (grownBy_setCell' W _ _) (by omega) (fun r e => by cases e; omega))).grown (grownBy_putObj' _ w3.heap.size (.deferred none)) (by have := (grownBy_setCell' W (w.heap.size + 1) (.int .i64 5)).size; omega) (fun r e => by cases e; omega)
      · have hsn : ¬ 4096 < szT t := hsl
        have hsi : decide ((4096 : Int) < (szT t : Int)) = false := by rw [decide_eq_false_iff_not]; omega
        by_cases hdl : 200 < dpT t
        · have HC : Hid (chkC vars params metas levels t = 7) := Lib.hid (by unfold chkC; rw [if_neg (by rw [HC0.out]; simp), if_neg hsl, if_pos hdl])
          have hdi : decide ((200 : Int) < (dpT t : Int)) = true := by rw [decide_eq_true_iff]; omega
          gi_wp2_with fail
          obtain ⟨hk, hb3, hr, hD⟩ := HW.out
          have hD' : (W.setCell ⟨w.heap.size + 1, 0, none⟩ (.int .i64 7)).heap[w3.heap.size]? = some (.deferred (some [])) := (Below.heap_setCell _ _ _ _ (by show w3.heap.size ≠ w.heap.size + 1; omega)).trans hD
          refine ⟨by simp, .inl ⟨_, _, rfl, run_takeDeferred hD', ?_⟩⟩
          have hr1 : ((W.setCell ⟨w.heap.size + 1, 0, none⟩ (.int .i64 7)).putObj w3.heap.size (.deferred none)).cell? ⟨w.heap.size + 1, 0, none⟩ = some (.int .i64 7) := (World.cell?_of_block (a := ⟨w.heap.size + 1, 0, none⟩) (World.putObj_heap_other (by show w.heap.size + 1 ≠ w3.heap.size; omega))).trans (hr.set _).cell
          refine ⟨.int .i64 7, by simp [results, Tryd.results34, go_sem, hr1], ret_int HC.out.symm, ?_⟩
          exact (((hb3.trans (hk.below.mono (by omega))).grown (grownBy_setCell' W _ _) (by omega) (fun r e => by cases e; omega))).grown (grownBy_putObj' _ w3.heap.size (.deferred none)) (by have := (grownBy_setCell' W (w.heap.size + 1) (.int .i64 7)).size; omega) (fun r e => by cases e; omega)
        · have HC : Hid (chkC vars params metas levels t = 0) := Lib.hid (by unfold chkC; rw [if_neg (by rw [HC0.out]; simp), if_neg hsl, if_neg hdl])
          have hdm : ¬ 200 < dpT t := hdl
          have hdi : decide ((200 : Int) < (dpT t : Int)) = false := by rw [decide_eq_false_iff_not]; omega
          gi_wp2_with fail
          obtain ⟨hk, hb3, hr, hD⟩ := HW.out
          have hD' : (W.setCell ⟨w.heap.size + 1, 0, none⟩ (.int .i64 0)).heap[w3.heap.size]? = some (.deferred (some [])) := (Below.heap_setCell _ _ _ _ (by show w3.heap.size ≠ w.heap.size + 1; omega)).trans hD
          refine ⟨by simp, .inl ⟨_, _, rfl, run_takeDeferred hD', ?_⟩⟩
          have hr1 : ((W.setCell ⟨w.heap.size + 1, 0, none⟩ (.int .i64 0)).putObj w3.heap.size (.deferred none)).cell? ⟨w.heap.size + 1, 0, none⟩ = some (.int .i64 0) := (World.cell?_of_block (a := ⟨w.heap.size + 1, 0, none⟩) (World.putObj_heap_other (by show w.heap.size + 1 ≠ w3.heap.size; omega))).trans (hr.set _).cell
          refine ⟨.int .i64 0, by simp [results, Tryd.results34, go_sem, hr1], ret_int HC.out.symm, ?_⟩
          exact (((hb3.trans (hk.below.mono (by omega))).grown (grownBy_setCell' W _ _) (by omega) (fun r e => by cases e; omega))).grown (grownBy_putObj' _ w3.heap.size (.deferred none)) (by have := (grownBy_setCell' W (w.heap.size + 1) (.int .i64 0)).size; omega) (fun r e => by cases e; omega)
    case stop =>
      rintro c pre W ⟨tl, hS⟩ ⟨rfl, hbl, p, x, rfl, hz, hne, hr⟩ hD
      have hC : chkC vars params metas levels t = chkT (max 0 vars) (max 0 params) (max 0 metas) (max 0 levels) x.nd := by
        have h : chkL (max 0 vars) (max 0 params) (max 0 metas) (max 0 levels) (preT t 0 1) = chkT (max 0 vars) (max 0 params) (max 0 metas) (max 0 levels) x.nd := by
          rw [← hS, List.map_append, List.map_singleton, List.append_assoc, List.singleton_append]
          exact chkL_at hne (fun n hn => by obtain ⟨a, ha, rfl⟩ := List.mem_map.1 hn; exact hz a ha)
        unfold chkC
        rw [h, if_pos hne]
      have hsW := hbl.size
      have hDl := (Array.getElem?_eq_some_iff.1 hD).1
      gi_wp2_with fail
      refine ⟨by simp, .inl ⟨_, _, rfl, run_takeDeferred hD, ?_⟩⟩
      have hr1 : (W.putObj w3.heap.size (.deferred none)).cell? ⟨w.heap.size + 1, 0, none⟩ = some (.int .i64 (chkT (max 0 vars) (max 0 params) (max 0 metas) (max 0 levels) x.nd)) := (World.cell?_of_block (a := ⟨w.heap.size + 1, 0, none⟩) (World.putObj_heap_other (by show w.heap.size + 1 ≠ w3.heap.size; omega))).trans hr.cell
      refine ⟨.int .i64 (chkT (max 0 vars) (max 0 params) (max 0 metas) (max 0 levels) x.nd), by simp [results, Tryd.results34, go_sem, hr1], ret_int hC.symm, ?_⟩
      exact hbl.grown (grownBy_putObj' W w3.heap.size (.deferred none)) (by omega) (fun r e => by cases e; omega)
end Go.Proofs.YtbiifkpelldciaaDoor
