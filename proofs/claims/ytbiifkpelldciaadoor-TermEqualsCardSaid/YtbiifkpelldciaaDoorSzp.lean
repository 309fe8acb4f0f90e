/- Size. -/
import Derived.Test.YtbiifkpelldciaaDoorNdb
import Derived.Test.YtbiifkpelldciaaDoorNds
import Derived.RangeFuncBound
import Derived.RangeFuncCalls
namespace Go.Proofs.YtbiifkpelldciaaDoor
open Go.RowKit Go.Shelf
attribute [local go_sem] Oper.semAt_some

set_option maxRecDepth 100000 in
set_option maxHeartbeats 4000000 in
theorem size_any (t : Tm) (v : Value) (B : Nat) (w : World) (hv : TmV w B t v) (hB : B ≤ w.heap.size) (hB0 : 0 < B) (hsh : ShapesB w) (hsz : szT t ≤ 1000000000) :
    Calls Tryd.prog 19 #[v] w fun e w' => e = .returned (.int .i64 (szT t : Int)) ∧ Below w.heap.size w w' := by
  have HV := Lib.hid hv
  obtain ⟨k, i, nm, AL, nl, cl, AK, ck, rfl, _, _⟩ := hv.open_
  clear hv
  refine (callsIn_wide (n := 6)).1 ?_
  refine callsIn_of_wp_marks Tryd.func19 rfl trivial ?_ rfl
  simp only [Tryd.ntmps19, List.size_toArray, List.length_cons, List.length_nil, Nat.reduceAdd, Nat.reduceSub, Array.replicate_succ, Array.replicate_zero, List.push_toArray, List.append_toArray, List.nil_append, List.cons_append]
  gi_wp2_with fail
  refine ⟨trivial, ?_⟩
  refine (nodes_in _ k i nm AL nl cl AK _ ck _).mono ?_
  rintro e w3 ⟨rfl, hw3⟩
  gi_wp2_with fail
  have bS := (Boxed.new (w.alloc (.cells #[.int .i64 k, .int .i64 i, .string nm, .slice AL nl cl, .slice AK t.kids.length ck] 27)) 3 (.int .i64 0)).alloc (.cells #[.int .i64 k, .int .i64 i, .string nm, .slice AL nl cl, .slice AK t.kids.length ck] 27)
  simp only [World.size_alloc] at bS
  rw [← hw3] at bS ⊢
  have hb3 : Below w.heap.size w w3 := by rw [hw3]; exact (((Below.refl _ _).alloc (Nat.le_refl _) _).alloc (by simp) _).alloc (by simp; omega) _
  have hs3 : w3.heap.size = w.heap.size + 1 + 1 + 1 := by rw [hw3]; simp
  have ht3 : w3.heap[w.heap.size + 1 + 1]? = some (.cells #[.int .i64 k, .int .i64 i, .string nm, .slice AL nl cl, .slice AK t.kids.length ck] 27 (0, 0)) := by
    have h := World.alloc_heap_new ((w.alloc (.cells #[.int .i64 k, .int .i64 i, .string nm, .slice AL nl cl, .slice AK t.kids.length ck] 27)).alloc (.cells #[.int .i64 0] 3)) (.cells #[.int .i64 k, .int .i64 i, .string nm, .slice AL nl cl, .slice AK t.kids.length ck] 27)
    simp only [World.size_alloc] at h
    rw [← hw3] at h
    exact h
  have hcell : ∀ j u, (#[Value.int .i64 k, .int .i64 i, .string nm, .slice AL nl cl, .slice AK t.kids.length ck] : Array Value)[j]? = some u → w3.cell? ⟨w.heap.size + 1 + 1, j, none⟩ = some u := fun j u h => (cell_of_row _ _ _ _ _ _ ht3).trans h
  have hroot : NodeAt w3 w.heap.size (w.heap.size + 1 + 1) ⟨⟨t, 0, 1⟩, w.heap.size + 1 + 1, 0⟩ :=
    ⟨.inr rfl, _, _, _, _, _, hcell 0 _ rfl, hcell 1 _ rfl, hcell 2 _ rfl, hcell 3 _ rfl, hcell 4 _ rfl, (HV.out.more hB).below hb3 (Nat.le_refl _)⟩
  have hsh3 : ShapesB w3 := fun k hk => (hb3.cell (p := ⟨0, k * 5 + 4, none⟩) (by show 0 < w.heap.size; omega)).trans (hsh k hk)
  have HS3 := Lib.hid hs3
  clear hw3 ht3 hcell hsh
  refine wpIn_rangeB rfl (by decide) (gf := 62) (lb := #[.pointer (some ⟨w.heap.size + 1 + 1, 0, none⟩)]) rfl trivial (enters_of Tryd.func62 (by kernel_rfl) rfl)
    (Kp := KAt w.heap.size (w.heap.size + 1 + 1)) (nd_seq 5 (by decide) (w.heap.size + 1 + 1) w.heap.size t w3 hroot hsh3 (by omega) hsz ⟨by omega, by omega⟩) (fun h k => KAt.trans h k)
    (fun W l o h1 h2 => KAt.grown (grownBy_putObj' W l o) (by omega) (by omega) (fun r e => by cases e; omega)) (fun _ => rfl)
    (fun pre W => Boxed W (w.heap.size + 1) 3 (.int .i64 (pre.length : Int)) ∧ KAt w.heap.size (w.heap.size + 1 + 1) w3 W) (fun _ _ _ => False) ?hI (fun _ _ _ _ h _ => h) ⟨bS, KAt.refl _ _ _⟩
    (fun x a' _ => a' = { tmps := #[.agg #[.int .i64 k, .int .i64 i, .string nm, .slice AL nl cl, .slice AK t.kids.length ck], .pointer (some ⟨w.heap.size, 0, none⟩), .int .i64 0, .pointer (some ⟨w.heap.size + 1, 0, none⟩), .agg #[.int .i64 k, .int .i64 i, .string nm, .slice AL nl cl, .slice AK t.kids.length ck], .func (.func 62) #[] #[.pointer (some ⟨w.heap.size + 1 + 1, 0, none⟩)], .agg #[.pointer (some ⟨x.blk, x.off, none⟩), .int .i64 x.nd.b, .int .i64 x.nd.d], undef, undef, undef], defers := [] }) (fun _ _ _ _ h => h) ?assign ?body ?done (fun _ _ _ _ h _ => h.elim)
  case hI =>
    rintro pre W W' ⟨h1, h2⟩ hb
    refine ⟨(hb.block _ (by omega)).trans h1, h2.trans ⟨hb.mono (by omega), hb.block _ (by omega)⟩⟩
  case assign =>
    intro l pre x W K hs hgd hi hK
    gi_wp2_with fail
    exact hK _ _ (HighB.refl _ _) (KAt.refl _ _ _) hi (by simp [encN])
  case body =>
    rintro pre x a' W hs hgd ⟨hc, hk⟩ rfl hlt
    have hc0 := hc.cell
    have hf0 := hc.frozen
    gi_wp2_with fail
    refine ⟨HighB.grown (grownBy_setCell' W _ _) (fun r e => by cases e; omega), KAt.grown (grownBy_setCell' W _ _) (by omega) (by omega) (fun r e => by cases e; omega), ?_, hk.trans (KAt.grown (grownBy_setCell' W _ _) (by omega) (by omega) (fun r e => by cases e; omega))⟩
    rw [List.length_append, List.length_singleton]
    exact hc.set _
  case done =>
    rintro xs W hs hS ⟨hc, hk⟩ hD
    have hc0 := hc.cell
    have hl : xs.length = szT t := by
      have h := congrArg List.length hS
      rw [List.length_map, preT_length] at h
      exact h
    rw [hl] at hc0
    gi_wp2_with fail
    refine ⟨by simp, .inl ⟨_, _, rfl, run_takeDeferred hD, ?_⟩⟩
    refine ⟨.int .i64 (szT t : Int), by simp [results, Tryd.results19, go_sem], rfl, ?_⟩
    exact ((hb3.trans (hk.below)).grown (grownBy_putObj' W w3.heap.size (.deferred none)) (by omega) (fun r e => by cases e; omega))
end Go.Proofs.YtbiifkpelldciaaDoor
