/- The table of the kinds, out of the rows' condition. -/
import Derived.Test.YtobaeeobfcffoaaDoorHfm
import Derived.Test.YtobaeeobfcffoaaDoorTie
import Derived.Test.YtobaeeobfcffoaaDoorCards
import Derived.SevenTiedAt
import Derived.OpenShut
import Derived.Lib.LaidTab
import Derived.Test.YtobaeeobfcffoaaDoorRows
import Derived.Test.YtobaeeobfcffoaaDoorNdb
import Derived.ProofKit
import Derived.LaidMore
import Derived.Stop.Joined
import Derived.Carry
import Derived.SizedLaws
import Derived.Deep.SlicePairs
import Derived.Lib.SmallJoins
import Derived.ChangeMaps5
import Derived.Test.YtobaeeobfcffoaaDoorPar
/-! The table of the kinds, out of the rows' condition. -/
namespace Go.Proofs.YtobaeeobfcffoaaDoor
open Go.RowKit

set_option maxRecDepth 100000 in
theorem row_cells {H : Type} {enc : TypeId × Value → H} {W : World} {base : Nat} {sp : Nat → Bool} {held : Bool} {fuel : Nat} {cs : List Value} {b0 b1 : Bool} {i0 i1 i2 : Int} {x : DataW H × List MemPlace}
    (h : DataW.trod enc Tryd.prog W base sp held fuel 112 cs = some x) (hx : x.1 = .agg [.lit (.bool b0), .lit (.bool b1), .lit (.int .i64 i0), .lit (.int .i64 i1), .lit (.int .i64 i2)]) : cs = [.bool b0, .bool b1, .int .i64 i0, .int .i64 i1, .int .i64 i2] := by
  obtain ⟨xs, m, rfl, hd, hl, hn, hf⟩ := DataW.trod_struct Tryd.underlying112 h
  rw [hd] at hx
  have hl5 : cs.length = 5 := hl.trans (by kernel_rfl)
  match cs, hl5 with
  | [c0, c1, c2, c3, c4], _ =>
  match xs, hn with
  | [y0, y1, y2, y3, y4], _ =>
  simp only [List.map_cons, List.map_nil, DataW.agg.injEq, List.cons.injEq, and_true] at hx
  obtain ⟨e0, e1, e2, e3, e4⟩ := hx
  have g0 := hf 0 _ rfl
  have g1 := hf 1 _ rfl
  have g2 := hf 2 _ rfl
  have g3 := hf 3 _ rfl
  have g4 := hf 4 _ rfl
  simp only [List.getElem?_cons_zero, List.getElem?_cons_succ] at g0 g1 g2 g3 g4
  obtain ⟨q0, r0, s0⟩ := DataW.trod_bool Tryd.underlying4 g0
  obtain ⟨q1, r1, s1⟩ := DataW.trod_bool Tryd.underlying4 g1
  obtain ⟨q2, r2, s2, _⟩ := DataW.trod_int Tryd.underlying3 g2
  obtain ⟨q3, r3, s3, _⟩ := DataW.trod_int Tryd.underlying3 g3
  obtain ⟨q4, r4, s4, _⟩ := DataW.trod_int Tryd.underlying3 g4
  rw [s0] at e0
  rw [s1] at e1
  rw [s2] at e2
  rw [s3] at e3
  rw [s4] at e4
  injection r0 with r0
  injection r1 with r1
  injection r2 with r2
  injection r3 with r3
  injection r4 with r4
  injection e0 with e0
  injection e1 with e1
  injection e2 with e2
  injection e3 with e3
  injection e4 with e4
  injection e0 with e0
  injection e1 with e1
  injection e2 with _ e2
  injection e3 with _ e3
  injection e4 with _ e4
  rw [r0, r1, r2, r3, r4, e0, e1, e2, e3, e4]

/-- What the table holds, kind by kind. -/
theorem table_at (k : Nat) (hk : k < 13) : ∃ l, (Rows.laid_euclid_term_shapes : DataW Unit) = .agg l ∧ l[k]? = some (.agg [.lit (.bool (shI k)), .lit (.bool (shN k)), .lit (.int .i64 (shL k)), .lit (.int .i64 (kidsN k)), .lit (.int .i64 (bindK k))]) := by
  refine ⟨_, rfl, ?_⟩
  match k, hk with
  | 0, _ => rfl
  | 1, _ => rfl
  | 2, _ => rfl
  | 3, _ => rfl
  | 4, _ => rfl
  | 5, _ => rfl
  | 6, _ => rfl
  | 7, _ => rfl
  | 8, _ => rfl
  | 9, _ => rfl
  | 10, _ => rfl
  | 11, _ => rfl
  | 12, _ => rfl

set_option maxRecDepth 100000 in
theorem shapes_of {W : World} (h : laidMetH Tryd.prog Rows.substShiftsRow.laid W) : Shapes W ∧ 0 < W.heap.size := by
  rw [MakeChecks.laidMetH_plain _ _ _ (by kernel_rfl)] at h
  obtain ⟨ps, ⟨g0, t0, cs0, f0, p0, q0, hg0, ht0, hv0, hd0, _, _⟩, _, _⟩ := h
  have hg : Tryd.prog.globalNamed "euclid/term.shapes" = some 0 := by kernel_rfl
  obtain rfl := Option.some.inj (hg.symm.trans hg0)
  have ht : (Tryd.prog.globals[0]?).map (·.type) = some 113 := by kernel_rfl
  obtain rfl := Option.some.inj (ht.symm.trans ht0)
  unfold World.var? at hv0
  rw [hg, Option.bind_some] at hv0
  obtain ⟨xs, m, _, hx, hl, hn, hat⟩ := DataW.trod_array Tryd.underlying113 hd0
  have hc5 : Tryd.prog.cellsOf 112 = 5 := by kernel_rfl
  have hl65 : cs0.size = 65 := by
    have h := hl.trans (show Tryd.prog.cellsOf 113 = 65 by kernel_rfl)
    rw [Array.length_toList] at h
    exact h
  have hrow : ∀ k : Nat, k < 13 → (cs0.toList.drop (k * 5)).take 5 = [.bool (shI k), .bool (shN k), .int .i64 (shL k), .int .i64 (kidsN k), .int .i64 (bindK k)] := by
    intro k hk
    obtain ⟨l, hl1, hl2⟩ := table_at k hk
    have h1 := hat k hk
    rw [hc5] at h1
    have hxk : xs[k]? = some xs[k] := List.getElem?_eq_getElem (by omega)
    rw [hxk] at h1
    refine row_cells h1 ?_
    have h2 := congrArg Prod.fst hx
    rw [hl1] at h2
    simp only [DataW.agg.injEq] at h2
    have h3 := hl2
    rw [h2, List.getElem?_map, hxk] at h3
    simpa using h3
  cases hb : W.heap[0]? with
  | none => rw [hb] at hv0; cases hv0
  | some o =>
    rw [hb] at hv0
    cases o with
    | cells c t fr =>
      simp only [Option.some.injEq] at hv0
      subst hv0
      have hcell : ∀ k f : Nat, ∀ u, k < 13 → f < 5 → [Value.bool (shI k), .bool (shN k), .int .i64 (shL k), .int .i64 (kidsN k), .int .i64 (bindK k)][f]? = some u → W.cell? ⟨0, k * 5 + f, none⟩ = some u := by
        intro k f u hk hf hu
        rw [← hrow k hk, List.getElem?_take_of_lt hf, List.getElem?_drop] at hu
        have e := cell_of_row W 0 (k * 5 + f) c t fr hb
        rw [e, ← Array.getElem?_toList]
        exact hu
      exact ⟨⟨fun k hk => hcell k 0 _ hk (by omega) rfl, fun k hk => hcell k 1 _ hk (by omega) rfl, fun k hk => hcell k 2 _ hk (by omega) rfl, fun k hk => hcell k 3 _ hk (by omega) rfl, fun k hk => hcell k 4 _ hk (by omega) rfl⟩, by
        have := (Array.getElem?_eq_some_iff.1 hb).1
        omega⟩
    | _ => cases hv0
end Go.Proofs.YtobaeeobfcffoaaDoor

/-! A term, a string among a law's arguments, opened; the door's own heap meets the rows' condition. -/
namespace Go.Proofs.YtobaeeobfcffoaaDoor
open Go.ChangeShapes Go.WideShapes Go.ChangeAt Go.RowKit Go.Deep Go.Joins

theorem own : ownKnob Tryd.prog.godebug = none := by kernel_rfl
theorem laidOut : laidOutB Tryd.prog = true := by kernel_rfl
theorem door_laid (os : Os) (args : Array Value) : laidMetH Tryd.prog Rows.substShiftsRow.laid ((World.doorLaid Tryd.prog 4000 os).forCall (fun _ _ => 0) ⟨#[], args, []⟩).memory :=
  laidMetH_of_parts3 (fuel := 8) (laidMet_of_run' 8 (by kernel_rfl) (by kernel_rfl)) (by kernel_rfl) (by kernel_rfl)

section
variable {H : Type} {enc : TypeId × Value → H} {W : World}
theorem block_lt {w : World} {a : Addr} {v : Value} (h : w.cell? a = some v) : a.block < w.heap.size := by
  rcases Nat.lt_or_ge a.block w.heap.size with h1 | h1
  · exact h1
  · simp [World.cell?, Array.getElem?_eq_none h1] at h

theorem weights_all {P : Program} {e : TypeId} : ∀ {l : List (DataW H)} {d : DataW H}, d ∈ l → ∀ n ∈ d.weights P e, n ∈ DataW.weightsAll P e l
  | d0 :: r, d, hd, n, hn => by
    simp only [DataW.weightsAll, List.mem_append]
    rcases List.mem_cons.1 hd with rfl | hd
    · exact .inl hn
    · exact .inr (weights_all hd n hn)
  | [], _, hd, _, _ => by simp at hd
set_option maxRecDepth 100000 in
/-- The list of a level, from its cell. -/
theorem open_vars {m : Nat} {v1 : Value} {D1 : DataW H} {P1 : List MemPlace} (h1 : DataW.trod enc Tryd.prog W 0 (fun _ => true) true m 93 [v1] = some (D1, P1)) (hw : ∀ n ∈ D1.weights Tryd.prog 93, n ≤ reachBytes) :
    ∃ (A : Option Addr) (cap : Nat) (vs : List (Int × Int)), v1 = .slice A vs.length cap ∧ VA W W.heap.size A vs := by
  rcases open_slice_pairs Tryd.underlying93 Tryd.underlying120 (by kernel_rfl) rfl rfl (by kernel_rfl) (by kernel_rfl) h1 with ⟨hcs, _⟩ | ⟨a, len, cap, m, k, V0, V1, D0, D1', P0, P1', hcs, _, hl, _, hm, hx, hi⟩
  · simp only [List.cons.injEq, and_true] at hcs
    subst hcs
    exact ⟨none, 0, [], rfl, VA.nil⟩
  · simp only [List.cons.injEq, and_true] at hcs
    subst hcs
    simp only [if_true] at hm
    subst hm
    simp only [Prod.mk.injEq] at hx
    obtain ⟨hd, _⟩ := hx
    have hsz : len * 16 ≤ 140737488355328 := by
      have hb : Tryd.prog.bytesOf 120 = 16 := by kernel_rfl
      have h3 := hw ((((List.range len).map fun i => DataW.agg [D0 i, D1' i]).length + ((List.range (m - len)).map fun j => DataW.agg [D0 (len + j), D1' (len + j)]).length) * Tryd.prog.bytesOf 120) (by
        rw [hd]
        simp only [DataW.weights, Tryd.underlying93]
        exact List.mem_cons_self)
      rw [hb] at h3
      simp only [List.length_map, List.length_range] at h3
      have : reachBytes < 2 ^ 47 := reachBytes_lt
      omega
    refine ⟨some a, m, (List.range len).map fun i => (intOf (V0 i), intOf (V1 i)), by simp, by simpa using hsz, fun hn => ?_⟩
    simp only [List.length_map, List.length_range] at hn
    obtain ⟨b, off, spot⟩ := a
    have hs : spot = none := by simpa [Addr.add] using World.cell?_spot (hi 0 (by omega)).1
    subst hs
    refine ⟨b, off, rfl, by simpa [Addr.add] using block_lt (hi 0 (by omega)).1, fun j x y hj => ?_⟩
    have hjl : j < len := by
      have := (List.getElem?_eq_some_iff.1 hj).1
      simpa using this
    simp only [List.getElem?_map, List.getElem?_range hjl, Option.map_some, Option.some.injEq, Prod.mk.injEq] at hj
    obtain ⟨rfl, rfl⟩ := hj
    obtain ⟨e0, e1, r0, r1⟩ := hi j (by omega)
    obtain ⟨q0, hq0, _, _⟩ := DataW.trod_int Tryd.underlying3 r0
    obtain ⟨q1, hq1, _, _⟩ := DataW.trod_int Tryd.underlying3 r1
    simp only [List.cons.injEq, and_true] at hq0 hq1
    rw [hq0] at e0
    rw [hq1] at e1
    rw [hq0, hq1]
    rw [Addr.add_lit] at e0 e1
    rw [← Nat.add_assoc] at e1
    exact ⟨e0, e1⟩

set_option maxRecDepth 100000 in
theorem open_string_arg {base : Nat} {v : Value} {d : DataW H} {p : List MemPlace} (hv : Value.okWide Tryd.prog W .any base 9 v) (h : DataW.Trod enc Tryd.prog W 0 (fun _ => true) true 9 v d p) : ∃ s : ByteArray, v = .string s ∧ s.size ≤ maxLen := by
  obtain ⟨s, h1, _, _, h2⟩ := Go.ChangeMaps.open_string Tryd.underlying9 hv h
  exact ⟨s, h1, h2⟩

set_option maxRecDepth 100000 in
/-- The levels of a term, from its cell. -/
theorem open_lvs {m : Nat} {v3 : Value} {D3 : DataW H} {P3 : List MemPlace} (h3 : DataW.trod enc Tryd.prog W 0 (fun _ => true) true m 22 [v3] = some (D3, P3)) (hw : ∀ n ∈ D3.weights Tryd.prog 22, n ≤ reachBytes) :
    ∃ (A : Option Addr) (cap : Nat) (ls : List (Int × List (Int × Int))), v3 = .slice A ls.length cap ∧ LvsA W W.heap.size A ls := by
  rcases open_slice_pairs Tryd.underlying22 Tryd.underlying95 (by kernel_rfl) rfl rfl (by kernel_rfl) (by kernel_rfl) h3 with ⟨hcs, _⟩ | ⟨a, len0, cap, m, k, V0, V1, D0, D1, P0, P1, hcs, _, hl, _, hm, hx, hi⟩
  · simp only [List.cons.injEq, and_true] at hcs
    subst hcs
    exact ⟨none, 0, [], rfl, ⟨by simp, fun h => absurd h (by simp)⟩⟩
  · simp only [List.cons.injEq, and_true] at hcs
    subst hcs
    simp only [if_true] at hm
    subst hm
    simp only [Prod.mk.injEq] at hx
    obtain ⟨hd, _⟩ := hx
    have hsz : len0 * 32 ≤ 140737488355328 := by
      have hb : Tryd.prog.bytesOf 95 = 32 := by kernel_rfl
      have h3 := hw ((((List.range len0).map fun i => DataW.agg [D0 i, D1 i]).length + ((List.range (m - len0)).map fun j => DataW.agg [D0 (len0 + j), D1 (len0 + j)]).length) * Tryd.prog.bytesOf 95) (by
        rw [hd]
        simp only [DataW.weights, Tryd.underlying22]
        exact List.mem_cons_self)
      rw [hb] at h3
      simp only [List.length_map, List.length_range] at h3
      have : reachBytes < 2 ^ 47 := reachBytes_lt
      omega
    have each : ∀ i, i < len0 → ∃ l : Int × List (Int × Int), V0 i = .int .i64 l.1 ∧ ∃ A' cap', V1 i = .slice A' l.2.length cap' ∧ VA W W.heap.size A' l.2 := fun i hil => by
      obtain ⟨e0, e1, r0, r1⟩ := hi i (by omega)
      obtain ⟨c, hc, _, _⟩ := DataW.trod_int Tryd.underlying3 r0
      simp only [List.cons.injEq, and_true] at hc
      obtain ⟨A, cap, vs, hv1, hva⟩ := open_vars r1 (fun n hn => hw n (by
        rw [hd]
        simp only [DataW.weights, Tryd.underlying22]
        refine List.mem_cons_of_mem _ (List.mem_append_left _ (weights_all (d := .agg [D0 i, D1 i]) (List.mem_map.2 ⟨i, List.mem_range.2 hil, rfl⟩) n ?_))
        simp only [DataW.weights, Tryd.underlying95]
        exact DataW.weights_mem_each (j := 1) (t := 93) (d := D1 i) rfl rfl n hn))
      exact ⟨⟨c, vs⟩, hc, A, cap, hv1, hva⟩
    obtain ⟨f, hff⟩ := choose_lt each
    refine ⟨some a, m, (List.range len0).map f, by simp, ⟨by simpa using hsz, fun hn => ?_⟩⟩
    simp only [List.length_map, List.length_range] at hn
    obtain ⟨b, off, spot⟩ := a
    have hs : spot = none := by simpa [Addr.add] using World.cell?_spot (hi 0 (by omega)).1
    subst hs
    refine ⟨b, off, rfl, by simpa [Addr.add] using block_lt (hi 0 (by omega)).1, fun j c vs hj => ?_⟩
    have hjl : j < len0 := by
      have := (List.getElem?_eq_some_iff.1 hj).1
      simpa using this
    simp only [List.getElem?_map, List.getElem?_range hjl, Option.map_some, Option.some.injEq] at hj
    obtain ⟨e0, e1, _, _⟩ := hi j (by omega)
    obtain ⟨g0, A', cap', g1, g2⟩ := hff j hjl
    rw [hj] at g0 g1 g2
    rw [g0] at e0
    rw [g1] at e1
    rw [Addr.add_lit] at e0 e1
    rw [← Nat.add_assoc] at e1
    exact ⟨e0, A', cap', e1, g2⟩

theorem ksV_of {B b : Nat} (f : Nat → Tm) : ∀ (n s off : Nat), (∀ j, s ≤ j → j < s + n → ∃ c0 c1 c2 c3 c4, W.cell? ⟨b, off + j * 5, none⟩ = some c0 ∧ W.cell? ⟨b, off + j * 5 + 1, none⟩ = some c1 ∧ W.cell? ⟨b, off + j * 5 + 2, none⟩ = some c2 ∧ W.cell? ⟨b, off + j * 5 + 3, none⟩ = some c3 ∧ W.cell? ⟨b, off + j * 5 + 4, none⟩ = some c4 ∧ TmV W B (f j) (.agg #[c0, c1, c2, c3, c4])) →
    KsV W B b (off + s * 5) ((List.range' s n).map f)
  | 0, _, _, _ => by rw [List.range'_zero, List.map_nil, KsV]; trivial
  | n + 1, s, off, h => by
    rw [List.range'_succ, List.map_cons, KsV]
    refine ⟨h s (Nat.le_refl _) (by omega), ?_⟩
    have := ksV_of (B := B) (b := b) f n (s + 1) off (fun j h1 h2 => h j (by omega) (by omega))
    rw [show off + (s + 1) * 5 = off + s * 5 + 5 by omega] at this
    exact this

set_option maxRecDepth 100000 in
/-- A term's cells. -/
theorem open_tm : ∀ (m : Nat) (cs : List Value) (x : DataW H × List MemPlace), DataW.trod enc Tryd.prog W 0 (fun _ => true) true m 25 cs = some x → (∀ n ∈ x.1.weights Tryd.prog 25, n ≤ reachBytes) →
    ∃ (c0 c1 c2 c3 c4 : Value) (t : Tm), cs = [c0, c1, c2, c3, c4] ∧ TmV W W.heap.size t (.agg #[c0, c1, c2, c3, c4]) := by
  intro m
  induction m using Nat.strongRecOn with
  | _ m ih =>
    intro cs x h hw
    obtain ⟨xs, n, rfl, hd, hl, hn, hf⟩ := DataW.trod_struct Tryd.underlying25 h
    have hl5 : cs.length = 5 := hl.trans (by kernel_rfl)
    match cs, hl5 with
    | [c0, c1, c2, c3, c4], _ =>
    match xs, hn with
    | [y0, y1, y2, y3, y4], _ =>
    have g0 := hf 0 _ rfl
    have g1 := hf 1 _ rfl
    have g2 := hf 2 _ rfl
    have g3 := hf 3 _ rfl
    have g4 := hf 4 _ rfl
    simp only [List.getElem?_cons_zero, List.getElem?_cons_succ] at g0 g1 g2 g3 g4
    obtain ⟨k, r0, _, _⟩ := DataW.trod_int Tryd.underlying3 g0
    obtain ⟨i, r1, _, _⟩ := DataW.trod_int Tryd.underlying3 g1
    obtain ⟨nm, r2, _, _⟩ := DataW.trod_string Tryd.underlying9 g2
    injection r0 with r0
    injection r1 with r1
    injection r2 with r2
    have hwm : ∀ (j : Nat) (ty : TypeId) (d : DataW H), ([3, 3, 9, 22, 23] : List TypeId)[j]? = some ty → [y0.1, y1.1, y2.1, y3.1, y4.1][j]? = some d → ∀ q ∈ d.weights Tryd.prog ty, q ≤ reachBytes := by
      intro j ty d hj hdj q hq
      refine hw q ?_
      rw [hd]
      simp only [DataW.weights, Tryd.underlying25]
      exact DataW.weights_mem_each (j := j) (t := ty) (d := d) hj hdj q hq
    obtain ⟨AL, cl, ls, r3, hlv⟩ := open_lvs (D3 := y3.1) (P3 := y3.2) g3 (hwm 3 _ _ rfl rfl)
    refine ⟨c0, c1, c2, c3, c4, ?_⟩
    rcases DataW.trod_slice Tryd.underlying23 g4 with ⟨r4, _⟩ | ⟨a, len, cap, elems, rest, n', rfl, r4, hx4, _, hle, _, hlen, hel, _, _⟩
    · injection r4 with r4
      refine ⟨.mk k i nm ls [], rfl, ?_⟩
      rw [TmV]
      exact ⟨AL, cl, none, 0, by rw [r0, r1, r2, r3, r4]; rfl, hlv, by simp, fun h => by simp at h⟩
    · injection r4 with r4
      have hc5 : Tryd.prog.cellsOf 25 = 5 := by kernel_rfl
      rw [hc5] at hel
      have hw4 := hwm 4 _ _ rfl rfl
      have hsz : len * 80 ≤ 140737488355328 := by
        have hb : Tryd.prog.bytesOf 25 = 80 := by kernel_rfl
        have h3 := hw4 (((elems.map (·.1)).length + (rest.map (·.1)).length) * Tryd.prog.bytesOf 25) (by
          rw [hx4]
          simp only [DataW.weights, Tryd.underlying23]
          exact List.mem_cons_self)
        rw [hb] at h3
        simp only [List.length_map] at h3
        have : reachBytes < 2 ^ 47 := reachBytes_lt
        have : len * 80 ≤ (elems.length + rest.length) * 80 := Nat.mul_le_mul_right _ (by omega)
        omega
      have each : ∀ j, j < len → ∃ t : Tm, ∃ d0 d1 d2 d3 d4, W.cell? (a.add (j * 5)) = some d0 ∧ W.cell? ((a.add (j * 5)).add 1) = some d1 ∧ W.cell? ((a.add (j * 5)).add 2) = some d2 ∧ W.cell? ((a.add (j * 5)).add 3) = some d3 ∧ W.cell? ((a.add (j * 5)).add 4) = some d4 ∧ TmV W W.heap.size t (.agg #[d0, d1, d2, d3, d4]) := by
        intro j hj
        have hej := hel j hj
        have hjl : j < elems.length := by omega
        rw [List.getElem?_eq_getElem hjl] at hej
        obtain ⟨cs', h1, h2⟩ := Option.bind_eq_some_iff.1 hej
        obtain ⟨d0, d1, d2, d3, d4, t, rfl, ht⟩ := ih n' (by omega) cs' _ h2 (fun q hq => hw4 q (by
          rw [hx4]
          simp only [DataW.weights, Tryd.underlying23]
          exact List.mem_cons_of_mem _ (List.mem_append_left _ (weights_all (List.mem_map.2 ⟨elems[j], List.getElem_mem hjl, rfl⟩) q hq))))
        unfold World.cells? at h1
        split at h1
        · have hq := fun z (hz : z < 5) => Lib.mapM_at h1 z z (by rw [List.getElem?_range hz])
          obtain ⟨e0, q0, p0⟩ := hq 0 (by omega)
          obtain ⟨e1, q1, p1⟩ := hq 1 (by omega)
          obtain ⟨e2, q2, p2⟩ := hq 2 (by omega)
          obtain ⟨e3, q3, p3⟩ := hq 3 (by omega)
          obtain ⟨e4, q4, p4⟩ := hq 4 (by omega)
          simp only [List.getElem?_cons_zero, List.getElem?_cons_succ, Option.some.injEq] at q0 q1 q2 q3 q4
          subst q0 q1 q2 q3 q4
          exact ⟨t, _, _, _, _, _, by simpa [Addr.add] using p0, p1, p2, p3, p4, ht⟩
        · cases h1
      have inh : Inhabited Tm := ⟨.mk 0 0 ⟨#[]⟩ [] []⟩
      obtain ⟨f, hff⟩ := choose_lt each
      refine ⟨.mk k i nm ls ((List.range len).map f), rfl, ?_⟩
      rw [TmV]
      refine ⟨AL, cl, some a, cap, by rw [r0, r1, r2, r3, r4]; simp, hlv, by simpa using hsz, fun hn => ?_⟩
      simp only [List.length_map, List.length_range] at hn
      obtain ⟨b, off, spot⟩ := a
      have hs : spot = none := by
        obtain ⟨_, _, _, _, _, h0, _⟩ := hff 0 hn
        simpa [Addr.add] using World.cell?_spot h0
      subst hs
      refine ⟨b, off, rfl, ?_, ?_⟩
      · obtain ⟨_, _, _, _, _, h0, _⟩ := hff 0 hn
        simpa [Addr.add] using block_lt h0
      · have := ksV_of (W := W) (B := W.heap.size) (b := b) f len 0 off (fun j _ hj => by
          obtain ⟨d0, d1, d2, d3, d4, p0, p1, p2, p3, p4, ht⟩ := hff j (by omega)
          simp only [Addr.add_lit] at p0 p1 p2 p3 p4
          exact ⟨d0, d1, d2, d3, d4, p0, p1, p2, p3, p4, ht⟩)
        rw [← List.range_eq_range', Nat.zero_mul, Nat.add_zero] at this
        exact this

set_option maxRecDepth 100000 in
theorem open_term_arg {base : Nat} {v : Value} {d : DataW H} {p : List MemPlace} (hv : Value.okWide Tryd.prog W .any base 25 v) (h : DataW.Trod enc Tryd.prog W 0 (fun _ => true) true 25 v d p)
    (hw : ∀ n ∈ d.weights Tryd.prog 25, n ≤ reachBytes) : ∃ t : Tm, TmV W W.heap.size t v := by
  obtain ⟨cs, rfl, _⟩ := okWide_struct Tryd.underlying25 hv
  obtain ⟨fuel, hf⟩ := h
  obtain ⟨c0, c1, c2, c3, c4, t, hcs, ht⟩ := open_tm fuel _ _ hf hw
  refine ⟨t, ?_⟩
  have : cs = #[c0, c1, c2, c3, c4] := by
    have h := hcs
    simp only [Value.cells] at h
    exact Array.ext' h
  rw [this]
  exact ht
end
end Go.Proofs.YtobaeeobfcffoaaDoor

/-! A term among a law's arguments, opened, with its numbers' bounds. -/
namespace Go.Proofs.YtobaeeobfcffoaaDoor
open Go.ChangeShapes Go.WideShapes Go.ChangeAt Go.RowKit Go.Deep Go.Joins

theorem i64_range {n : Int} (h : (Lit.int .i64 n).wf = true) : -9223372036854775808 ≤ n ∧ n ≤ 9223372036854775807 := by
  simp [Lit.wf, IntKind.min, IntKind.max, IntKind.signed, IntKind.bits] at h
  omega
theorem wfL_mem {l : List Nat} {f : Nat → Tm} (h : ∀ j ∈ l, WfT (f j)) : WfL (l.map f) := by
  induction l with
  | nil => rw [List.map_nil, WfL]; trivial
  | cons n r ih => rw [List.map_cons, WfL]; exact ⟨h n (by simp), ih fun j hj => h j (by simp [hj])⟩
theorem wfL_range {n : Nat} {f : Nat → Tm} (h : ∀ j, j < n → WfT (f j)) : WfL ((List.range n).map f) := wfL_mem fun j hj => h j (List.mem_range.1 hj)
section
variable {H : Type} {enc : TypeId × Value → H} {W : World}
set_option maxRecDepth 100000 in
/-- A term's cells. -/
theorem open_tmw : ∀ (m : Nat) (cs : List Value) (x : DataW H × List MemPlace), DataW.trod enc Tryd.prog W 0 (fun _ => true) true m 25 cs = some x → (∀ n ∈ x.1.weights Tryd.prog 25, n ≤ reachBytes) →
    ∃ (c0 c1 c2 c3 c4 : Value) (t : Tm), cs = [c0, c1, c2, c3, c4] ∧ TmV W W.heap.size t (.agg #[c0, c1, c2, c3, c4]) ∧ WfT t := by
  intro m
  induction m using Nat.strongRecOn with
  | _ m ih =>
    intro cs x h hw
    obtain ⟨xs, n, rfl, hd, hl, hn, hf⟩ := DataW.trod_struct Tryd.underlying25 h
    have hl5 : cs.length = 5 := hl.trans (by kernel_rfl)
    match cs, hl5 with
    | [c0, c1, c2, c3, c4], _ =>
    match xs, hn with
    | [y0, y1, y2, y3, y4], _ =>
    have g0 := hf 0 _ rfl
    have g1 := hf 1 _ rfl
    have g2 := hf 2 _ rfl
    have g3 := hf 3 _ rfl
    have g4 := hf 4 _ rfl
    simp only [List.getElem?_cons_zero, List.getElem?_cons_succ] at g0 g1 g2 g3 g4
    obtain ⟨k, r0, _, _⟩ := DataW.trod_int Tryd.underlying3 g0
    obtain ⟨i, r1, _, wi⟩ := DataW.trod_int Tryd.underlying3 g1
    have wi := i64_range wi
    obtain ⟨nm, r2, _, _⟩ := DataW.trod_string Tryd.underlying9 g2
    injection r0 with r0
    injection r1 with r1
    injection r2 with r2
    have hwm : ∀ (j : Nat) (ty : TypeId) (d : DataW H), ([3, 3, 9, 22, 23] : List TypeId)[j]? = some ty → [y0.1, y1.1, y2.1, y3.1, y4.1][j]? = some d → ∀ q ∈ d.weights Tryd.prog ty, q ≤ reachBytes := by
      intro j ty d hj hdj q hq
      refine hw q ?_
      rw [hd]
      simp only [DataW.weights, Tryd.underlying25]
      exact DataW.weights_mem_each (j := j) (t := ty) (d := d) hj hdj q hq
    obtain ⟨AL, cl, ls, r3, hlv⟩ := open_lvs (D3 := y3.1) (P3 := y3.2) g3 (hwm 3 _ _ rfl rfl)
    refine ⟨c0, c1, c2, c3, c4, ?_⟩
    rcases DataW.trod_slice Tryd.underlying23 g4 with ⟨r4, _⟩ | ⟨a, len, cap, elems, rest, n', rfl, r4, hx4, _, hle, _, hlen, hel, _, _⟩
    · injection r4 with r4
      refine ⟨.mk k i nm ls [], rfl, ?_⟩
      refine ⟨?_, by rw [WfT, WfL]; exact ⟨wi, trivial⟩⟩
      rw [TmV]
      exact ⟨AL, cl, none, 0, by rw [r0, r1, r2, r3, r4]; rfl, hlv, by simp, fun h => by simp at h⟩
    · injection r4 with r4
      have hc5 : Tryd.prog.cellsOf 25 = 5 := by kernel_rfl
      rw [hc5] at hel
      have hw4 := hwm 4 _ _ rfl rfl
      have hsz : len * 80 ≤ 140737488355328 := by
        have hb : Tryd.prog.bytesOf 25 = 80 := by kernel_rfl
        have h3 := hw4 (((elems.map (·.1)).length + (rest.map (·.1)).length) * Tryd.prog.bytesOf 25) (by
          rw [hx4]
          simp only [DataW.weights, Tryd.underlying23]
          exact List.mem_cons_self)
        rw [hb] at h3
        simp only [List.length_map] at h3
        have : reachBytes < 2 ^ 47 := reachBytes_lt
        have : len * 80 ≤ (elems.length + rest.length) * 80 := Nat.mul_le_mul_right _ (by omega)
        omega
      have each : ∀ j, j < len → ∃ t : Tm, ∃ d0 d1 d2 d3 d4, W.cell? (a.add (j * 5)) = some d0 ∧ W.cell? ((a.add (j * 5)).add 1) = some d1 ∧ W.cell? ((a.add (j * 5)).add 2) = some d2 ∧ W.cell? ((a.add (j * 5)).add 3) = some d3 ∧ W.cell? ((a.add (j * 5)).add 4) = some d4 ∧ (TmV W W.heap.size t (.agg #[d0, d1, d2, d3, d4]) ∧ WfT t) := by
        intro j hj
        have hej := hel j hj
        have hjl : j < elems.length := by omega
        rw [List.getElem?_eq_getElem hjl] at hej
        obtain ⟨cs', h1, h2⟩ := Option.bind_eq_some_iff.1 hej
        obtain ⟨d0, d1, d2, d3, d4, t, rfl, ht⟩ := ih n' (by omega) cs' _ h2 (fun q hq => hw4 q (by
          rw [hx4]
          simp only [DataW.weights, Tryd.underlying23]
          exact List.mem_cons_of_mem _ (List.mem_append_left _ (weights_all (List.mem_map.2 ⟨elems[j], List.getElem_mem hjl, rfl⟩) q hq))))
        unfold World.cells? at h1
        split at h1
        · have hq := fun z (hz : z < 5) => Lib.mapM_at h1 z z (by rw [List.getElem?_range hz])
          obtain ⟨e0, q0, p0⟩ := hq 0 (by omega)
          obtain ⟨e1, q1, p1⟩ := hq 1 (by omega)
          obtain ⟨e2, q2, p2⟩ := hq 2 (by omega)
          obtain ⟨e3, q3, p3⟩ := hq 3 (by omega)
          obtain ⟨e4, q4, p4⟩ := hq 4 (by omega)
          simp only [List.getElem?_cons_zero, List.getElem?_cons_succ, Option.some.injEq] at q0 q1 q2 q3 q4
          subst q0 q1 q2 q3 q4
          exact ⟨t, _, _, _, _, _, by simpa [Addr.add] using p0, p1, p2, p3, p4, ht⟩
        · cases h1
      have inh : Inhabited Tm := ⟨.mk 0 0 ⟨#[]⟩ [] []⟩
      obtain ⟨f, hff⟩ := choose_lt each
      have hwf : WfL ((List.range len).map f) := wfL_range fun j hj => by obtain ⟨_, _, _, _, _, _, _, _, _, _, _, h⟩ := hff j hj; exact h
      refine ⟨.mk k i nm ls ((List.range len).map f), rfl, ?_, by rw [WfT]; exact ⟨wi, hwf⟩⟩
      rw [TmV]
      refine ⟨AL, cl, some a, cap, by rw [r0, r1, r2, r3, r4]; simp, hlv, by simpa using hsz, fun hn => ?_⟩
      simp only [List.length_map, List.length_range] at hn
      obtain ⟨b, off, spot⟩ := a
      have hs : spot = none := by
        obtain ⟨_, _, _, _, _, h0, _⟩ := hff 0 hn
        simpa [Addr.add] using World.cell?_spot h0
      subst hs
      refine ⟨b, off, rfl, ?_, ?_⟩
      · obtain ⟨_, _, _, _, _, h0, _⟩ := hff 0 hn
        simpa [Addr.add] using block_lt h0
      · have := ksV_of (W := W) (B := W.heap.size) (b := b) f len 0 off (fun j _ hj => by
          obtain ⟨d0, d1, d2, d3, d4, p0, p1, p2, p3, p4, ht, _⟩ := hff j (by omega)
          simp only [Addr.add_lit] at p0 p1 p2 p3 p4
          exact ⟨d0, d1, d2, d3, d4, p0, p1, p2, p3, p4, ht⟩)
        rw [← List.range_eq_range', Nat.zero_mul, Nat.add_zero] at this
        exact this

set_option maxRecDepth 100000 in
theorem open_termw_arg {base : Nat} {v : Value} {d : DataW H} {p : List MemPlace} (hv : Value.okWide Tryd.prog W .any base 25 v) (h : DataW.Trod enc Tryd.prog W 0 (fun _ => true) true 25 v d p)
    (hw : ∀ n ∈ d.weights Tryd.prog 25, n ≤ reachBytes) : ∃ t : Tm, TmV W W.heap.size t v ∧ WfT t := by
  obtain ⟨cs, rfl, _⟩ := okWide_struct Tryd.underlying25 hv
  obtain ⟨fuel, hf⟩ := h
  obtain ⟨c0, c1, c2, c3, c4, t, hcs, ht⟩ := open_tmw fuel _ _ hf hw
  refine ⟨t, ?_⟩
  have : cs = #[c0, c1, c2, c3, c4] := by
    have h := hcs
    simp only [Value.cells] at h
    exact Array.ext' h
  rw [this]
  exact ht
end
end Go.Proofs.YtobaeeobfcffoaaDoor
