/- The table of the kinds, out of the rows' condition. -/
import Derived.Test.YtbiifkpelldciaaDoorHfm
import Derived.Test.YtbiifkpelldciaaDoorTie
import Derived.Test.YtbiifkpelldciaaDoorCards
import Derived.SevenTiedAt
import Derived.OpenShut
import Derived.Lib.LaidTab
namespace Go.Proofs.YtbiifkpelldciaaDoor
open Go.RowKit

set_option maxRecDepth 100000 in
theorem row_cells {H : Type} {enc : TypeId × Value → H} {W : World} {base : Nat} {sp : Nat → Bool} {held : Bool} {fuel : Nat} {cs : List Value} {b0 b1 : Bool} {i0 i1 i2 : Int} {x : DataW H × List MemPlace}
    (h : DataW.trod enc Tryd.prog W base sp held fuel 100 cs = some x) (hx : x.1 = .agg [.lit (.bool b0), .lit (.bool b1), .lit (.int .i64 i0), .lit (.int .i64 i1), .lit (.int .i64 i2)]) : cs = [.bool b0, .bool b1, .int .i64 i0, .int .i64 i1, .int .i64 i2] := by
  obtain ⟨xs, m, rfl, hd, hl, hn, hf⟩ := DataW.trod_struct Tryd.underlying100 h
  rw [hd] at hx
  have hl5 : cs.length = 5 := hl.trans (by kernel_rfl)
  match cs, hl5 with
  | [c0, c1, c2, c3, c4], _ =>
  match xs, hn with
  | [y0, y1, y2, y3, y4], _ =>
  simp only [List.map_cons, List.map_nil, DataW.agg.injEq, List.cons.injEq, and_true] at hx
  obtain ⟨e0, e1, e2, e3, e4⟩ := hx
  have g0 := hf 0 _ rfl
  have g1 := hf 1 _ rfl
  have g2 := hf 2 _ rfl
  have g3 := hf 3 _ rfl
  have g4 := hf 4 _ rfl
  simp only [List.getElem?_cons_zero, List.getElem?_cons_succ] at g0 g1 g2 g3 g4
  obtain ⟨q0, r0, s0⟩ := DataW.trod_bool Tryd.underlying4 g0
  obtain ⟨q1, r1, s1⟩ := DataW.trod_bool Tryd.underlying4 g1
  obtain ⟨q2, r2, s2, _⟩ := DataW.trod_int Tryd.underlying3 g2
  obtain ⟨q3, r3, s3, _⟩ := DataW.trod_int Tryd.underlying3 g3
  obtain ⟨q4, r4, s4, _⟩ := DataW.trod_int Tryd.underlying3 g4
  rw [s0] at e0
  rw [s1] at e1
  rw [s2] at e2
  rw [s3] at e3
  rw [s4] at e4
  injection r0 with r0
  injection r1 with r1
  injection r2 with r2
  injection r3 with r3
  injection r4 with r4
  injection e0 with e0
  injection e1 with e1
  injection e2 with e2
  injection e3 with e3
  injection e4 with e4
  injection e0 with e0
  injection e1 with e1
  injection e2 with _ e2
  injection e3 with _ e3
  injection e4 with _ e4
  rw [r0, r1, r2, r3, r4, e0, e1, e2, e3, e4]

/-- What the table holds, kind by kind. -/
theorem table_at (k : Nat) (hk : k < 13) : ∃ l, (Rows.laid_euclid_term_shapes : DataW Unit) = .agg l ∧ l[k]? = some (.agg [.lit (.bool (shI k)), .lit (.bool (shN k)), .lit (.int .i64 (shL k)), .lit (.int .i64 (kidsN k)), .lit (.int .i64 (bindK k))]) := by
  refine ⟨_, rfl, ?_⟩
  match k, hk with
  | 0, _ => rfl
  | 1, _ => rfl
  | 2, _ => rfl
  | 3, _ => rfl
  | 4, _ => rfl
  | 5, _ => rfl
  | 6, _ => rfl
  | 7, _ => rfl
  | 8, _ => rfl
  | 9, _ => rfl
  | 10, _ => rfl
  | 11, _ => rfl
  | 12, _ => rfl

set_option maxRecDepth 100000 in
theorem shapes_of {W : World} (h : laidMetH Tryd.prog Rows.termNamesRow.laid W) : Shapes W ∧ 0 < W.heap.size := by
  rw [MakeChecks.laidMetH_plain _ _ _ (by kernel_rfl)] at h
  obtain ⟨ps, ⟨g0, t0, cs0, f0, p0, q0, hg0, ht0, hv0, hd0, _, _⟩, _, _⟩ := h
  have hg : Tryd.prog.globalNamed "euclid/term.shapes" = some 0 := by kernel_rfl
  obtain rfl := Option.some.inj (hg.symm.trans hg0)
  have ht : (Tryd.prog.globals[0]?).map (·.type) = some 101 := by kernel_rfl
  obtain rfl := Option.some.inj (ht.symm.trans ht0)
  unfold World.var? at hv0
  rw [hg, Option.bind_some] at hv0
  obtain ⟨xs, m, _, hx, hl, hn, hat⟩ := DataW.trod_array Tryd.underlying101 hd0
  have hc5 : Tryd.prog.cellsOf 100 = 5 := by kernel_rfl
  have hl65 : cs0.size = 65 := by
    have h := hl.trans (show Tryd.prog.cellsOf 101 = 65 by kernel_rfl)
    rw [Array.length_toList] at h
    exact h
  have hrow : ∀ k : Nat, k < 13 → (cs0.toList.drop (k * 5)).take 5 = [.bool (shI k), .bool (shN k), .int .i64 (shL k), .int .i64 (kidsN k), .int .i64 (bindK k)] := by
    intro k hk
    obtain ⟨l, hl1, hl2⟩ := table_at k hk
    have h1 := hat k hk
    rw [hc5] at h1
    have hxk : xs[k]? = some xs[k] := List.getElem?_eq_getElem (by omega)
    rw [hxk] at h1
    refine row_cells h1 ?_
    have h2 := congrArg Prod.fst hx
    rw [hl1] at h2
    simp only [DataW.agg.injEq] at h2
    have h3 := hl2
    rw [h2, List.getElem?_map, hxk] at h3
    simpa using h3
  cases hb : W.heap[0]? with
  | none => rw [hb] at hv0; cases hv0
  | some o =>
    rw [hb] at hv0
    cases o with
    | cells c t fr =>
      simp only [Option.some.injEq] at hv0
      subst hv0
      have hcell : ∀ k f : Nat, ∀ u, k < 13 → f < 5 → [Value.bool (shI k), .bool (shN k), .int .i64 (shL k), .int .i64 (kidsN k), .int .i64 (bindK k)][f]? = some u → W.cell? ⟨0, k * 5 + f, none⟩ = some u := by
        intro k f u hk hf hu
        rw [← hrow k hk, List.getElem?_take_of_lt hf, List.getElem?_drop] at hu
        have e := cell_of_row W 0 (k * 5 + f) c t fr hb
        rw [e, ← Array.getElem?_toList]
        exact hu
      exact ⟨⟨fun k hk => hcell k 0 _ hk (by omega) rfl, fun k hk => hcell k 1 _ hk (by omega) rfl, fun k hk => hcell k 2 _ hk (by omega) rfl, fun k hk => hcell k 3 _ hk (by omega) rfl, fun k hk => hcell k 4 _ hk (by omega) rfl⟩, by
        have := (Array.getElem?_eq_some_iff.1 hb).1
        omega⟩
    | _ => cases hv0
end Go.Proofs.YtbiifkpelldciaaDoor
