/- A level among a law's arguments, opened; what the listed variables give. -/
import Derived.Test.YtipnabbdhmapkaaGreatDoorRows
import Derived.Test.YtipnabbdhmapkaaGreatDoorAwk
import Derived.ProofKit
import Derived.LaidMore
import Derived.OpenShut
import Derived.Stop.Joined
import Derived.Carry
import Derived.SizedLaws
import Derived.Deep.SlicePairs
import Derived.Lib.SmallJoins
namespace Go.Proofs.YtipnabbdhmapkaaGreatDoor
open Go.ChangeShapes Go.WideShapes Go.ChangeAt Go.RowKit Go.Deep Go.Joins

theorem own : ownKnob Tryz.prog.godebug = none := by kernel_rfl
theorem laidOut : laidOutB Tryz.prog = true := by kernel_rfl

section
variable {H : Type} {enc : TypeId × Value → H} {W : World}
theorem block_lt {w : World} {a : Addr} {v : Value} (h : w.cell? a = some v) : a.block < w.heap.size := by
  rcases Nat.lt_or_ge a.block w.heap.size with h1 | h1
  · exact h1
  · simp [World.cell?, Array.getElem?_eq_none h1] at h

set_option maxRecDepth 100000 in
/-- A level by value: its constant, and its list. -/
theorem open_level {base : Nat} {v : Value} {d : DataW H} {p : List MemPlace} (hv : Value.okWide Tryz.prog W .any base 24 v) (h : DataW.Trod enc Tryz.prog W 0 (fun _ => true) true 24 v d p)
    (hw : ∀ n ∈ d.weights Tryz.prog 24, n ≤ reachBytes) : ∃ (c : Int) (A : Option Addr) (cap : Nat) (vs : List (Int × Int)), v = .agg #[.int .i64 c, .slice A vs.length cap] ∧ VA W W.heap.size A vs := by
  obtain ⟨v0, v1, y0, y1, n, rfl, hd, rfl, h0, h1⟩ := open_agg2 Tryz.underlying24 (by kernel_rfl) (by kernel_rfl) hv h
  obtain ⟨c, hc, _, _⟩ := DataW.trod_int Tryz.underlying3 h0
  simp only [List.cons.injEq, and_true] at hc
  subst hc
  rcases open_slice_pairs Tryz.underlying22 Tryz.underlying69 (by kernel_rfl) rfl rfl (by kernel_rfl) (by kernel_rfl) h1 with ⟨hcs, _⟩ | ⟨a, len, cap, m, k, V0, V1, D0, D1, P0, P1, hcs, _, hl, _, hm, hx, hi⟩
  · simp only [List.cons.injEq, and_true] at hcs
    subst hcs
    exact ⟨c, none, 0, [], rfl, VA.nil⟩
  · simp only [List.cons.injEq, and_true] at hcs
    subst hcs
    simp only [if_true] at hm
    subst hm
    have hsz : len * 16 ≤ 140737488355328 := by
      have hb : Tryz.prog.bytesOf 69 = 16 := by kernel_rfl
      have h3 := hw ((((List.range len).map fun i => DataW.agg [D0 i, D1 i]).length + ((List.range (m - len)).map fun j => DataW.agg [D0 (len + j), D1 (len + j)]).length) * Tryz.prog.bytesOf 69) (by
        rw [hd, hx]
        simp only [DataW.weights, Tryz.underlying24]
        refine DataW.weights_mem_each (j := 1) (t := 22) (d := .slice ((List.range len).map fun i => .agg [D0 i, D1 i]) ((List.range (m - len)).map fun j => .agg [D0 (len + j), D1 (len + j)])) rfl rfl _ ?_
        simp only [DataW.weights, Tryz.underlying22]
        exact List.mem_cons_self)
      rw [hb] at h3
      simp only [List.length_map, List.length_range] at h3
      have : reachBytes < 2 ^ 47 := reachBytes_lt
      omega
    refine ⟨c, some a, m, (List.range len).map fun i => (intOf (V0 i), intOf (V1 i)), by simp, by simpa using hsz, fun hn => ?_⟩
    simp only [List.length_map, List.length_range] at hn
    obtain ⟨b, off, spot⟩ := a
    have hs : spot = none := by simpa [Addr.add] using World.cell?_spot (hi 0 (by omega)).1
    subst hs
    refine ⟨b, off, rfl, by simpa [Addr.add] using block_lt (hi 0 (by omega)).1, fun j x y hj => ?_⟩
    have hjl : j < len := by
      have := (List.getElem?_eq_some_iff.1 hj).1
      simpa using this
    simp only [List.getElem?_map, List.getElem?_range hjl, Option.map_some, Option.some.injEq, Prod.mk.injEq] at hj
    obtain ⟨rfl, rfl⟩ := hj
    obtain ⟨e0, e1, r0, r1⟩ := hi j (by omega)
    obtain ⟨q0, hq0, _, _⟩ := DataW.trod_int Tryz.underlying3 r0
    obtain ⟨q1, hq1, _, _⟩ := DataW.trod_int Tryz.underlying3 r1
    simp only [List.cons.injEq, and_true] at hq0 hq1
    rw [hq0] at e0
    rw [hq1] at e1
    rw [hq0, hq1]
    rw [Addr.add_lit] at e0 e1
    rw [← Nat.add_assoc] at e1
    exact ⟨e0, e1⟩
end

/-- What the listed variables give: the table of powers. -/
theorem pow_of {W : World} (h : laidMetH Tryz.prog Rows.levelMakesRow.laid W) : Pow W := by
  rw [MakeChecks.laidMetH_plain _ _ _ (by kernel_rfl)] at h
  obtain ⟨ps, ⟨g0, t0, cs0, f0, p0, q0, _, _, _, _, ⟨g1, t1, cs1, f1, p1, q1, _, _, _, _, ⟨g2, t2, cs2, f2, p2, q2, hg2, ht2, hv2, hd2, _, _⟩, _⟩, _⟩, _, _⟩ := h
  have hg : Tryz.prog.globalNamed "internal/strconv.uint64pow10" = some 0 := by kernel_rfl
  obtain rfl := Option.some.inj (hg.symm.trans hg2)
  have ht : (Tryz.prog.globals[0]?).map (·.type) = some 159 := by kernel_rfl
  obtain rfl := Option.some.inj (ht.symm.trans ht2)
  show W.var? Tryz.prog "internal/strconv.uint64pow10" = _
  rw [hv2, ← Lib.cells_of_tab (k := .u64) (zs := Lib.pow10Tab) Tryz.underlying159 Tryz.underlying145 (by kernel_rfl) (by kernel_rfl) hd2]
end Go.Proofs.YtipnabbdhmapkaaGreatDoor
