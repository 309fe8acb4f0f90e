/- A slice of levels among a law's arguments, opened. -/
import Derived.Test.YtipnabbdhmapkaaGreatDoorOpn
import Derived.Test.YtipnabbdhmapkaaGreatDoorRep
namespace Go.Proofs.YtipnabbdhmapkaaGreatDoor
open Go.ChangeShapes Go.WideShapes Go.ChangeAt Go.RowKit Go.Deep Go.Joins

instance : Inhabited LvD := ⟨⟨0, none, 0, []⟩⟩
section
variable {H : Type} {enc : TypeId × Value → H} {W : World}
theorem weights_all {P : Program} {e : TypeId} : ∀ {l : List (DataW H)} {d : DataW H}, d ∈ l → ∀ n ∈ d.weights P e, n ∈ DataW.weightsAll P e l
  | d0 :: r, d, hd, n, hn => by
    simp only [DataW.weightsAll, List.mem_append]
    rcases List.mem_cons.1 hd with rfl | hd
    · exact .inl hn
    · exact .inr (weights_all hd n hn)
  | [], _, hd, _, _ => by simp at hd
set_option maxRecDepth 100000 in
/-- The list of a level, from its cell. -/
theorem open_vars {m : Nat} {v1 : Value} {D1 : DataW H} {P1 : List MemPlace} (h1 : DataW.trod enc Tryz.prog W 0 (fun _ => true) true m 22 [v1] = some (D1, P1)) (hw : ∀ n ∈ D1.weights Tryz.prog 22, n ≤ reachBytes) :
    ∃ (A : Option Addr) (cap : Nat) (vs : List (Int × Int)), v1 = .slice A vs.length cap ∧ VA W W.heap.size A vs := by
  rcases open_slice_pairs Tryz.underlying22 Tryz.underlying69 (by kernel_rfl) rfl rfl (by kernel_rfl) (by kernel_rfl) h1 with ⟨hcs, _⟩ | ⟨a, len, cap, m, k, V0, V1, D0, D1', P0, P1', hcs, _, hl, _, hm, hx, hi⟩
  · simp only [List.cons.injEq, and_true] at hcs
    subst hcs
    exact ⟨none, 0, [], rfl, VA.nil⟩
  · simp only [List.cons.injEq, and_true] at hcs
    subst hcs
    simp only [if_true] at hm
    subst hm
    simp only [Prod.mk.injEq] at hx
    obtain ⟨hd, _⟩ := hx
    have hsz : len * 16 ≤ 140737488355328 := by
      have hb : Tryz.prog.bytesOf 69 = 16 := by kernel_rfl
      have h3 := hw ((((List.range len).map fun i => DataW.agg [D0 i, D1' i]).length + ((List.range (m - len)).map fun j => DataW.agg [D0 (len + j), D1' (len + j)]).length) * Tryz.prog.bytesOf 69) (by
        rw [hd]
        simp only [DataW.weights, Tryz.underlying22]
        exact List.mem_cons_self)
      rw [hb] at h3
      simp only [List.length_map, List.length_range] at h3
      have : reachBytes < 2 ^ 47 := reachBytes_lt
      omega
    refine ⟨some a, m, (List.range len).map fun i => (intOf (V0 i), intOf (V1 i)), by simp, by simpa using hsz, fun hn => ?_⟩
    simp only [List.length_map, List.length_range] at hn
    obtain ⟨b, off, spot⟩ := a
    have hs : spot = none := by simpa [Addr.add] using World.cell?_spot (hi 0 (by omega)).1
    subst hs
    refine ⟨b, off, rfl, by simpa [Addr.add] using block_lt (hi 0 (by omega)).1, fun j x y hj => ?_⟩
    have hjl : j < len := by
      have := (List.getElem?_eq_some_iff.1 hj).1
      simpa using this
    simp only [List.getElem?_map, List.getElem?_range hjl, Option.map_some, Option.some.injEq, Prod.mk.injEq] at hj
    obtain ⟨rfl, rfl⟩ := hj
    obtain ⟨e0, e1, r0, r1⟩ := hi j (by omega)
    obtain ⟨q0, hq0, _, _⟩ := DataW.trod_int Tryz.underlying3 r0
    obtain ⟨q1, hq1, _, _⟩ := DataW.trod_int Tryz.underlying3 r1
    simp only [List.cons.injEq, and_true] at hq0 hq1
    rw [hq0] at e0
    rw [hq1] at e1
    rw [hq0, hq1]
    rw [Addr.add_lit] at e0 e1
    rw [← Nat.add_assoc] at e1
    exact ⟨e0, e1⟩

set_option maxRecDepth 100000 in
theorem open_levels_arg {base : Nat} {v : Value} {d : DataW H} {p : List MemPlace} (hv : Value.okWide Tryz.prog W .any base 42 v) (h : DataW.Trod enc Tryz.prog W 0 (fun _ => true) true 42 v d p)
    (hw : ∀ n ∈ d.weights Tryz.prog 42, n ≤ reachBytes) : ∃ (P : Option Addr) (cap : Nat) (ls : List LvD), v = .slice P ls.length cap ∧ LL W W.heap.size P ls := by
  obtain ⟨a0, len0, cap0, rfl⟩ := okWide_slice Tryz.underlying42 hv
  obtain ⟨fuel, hf⟩ := h
  rcases open_slice_pairs Tryz.underlying42 Tryz.underlying24 (by kernel_rfl) rfl rfl (by kernel_rfl) (by kernel_rfl) hf with ⟨hcs, _⟩ | ⟨a, len, cap, m, k, V0, V1, D0, D1, P0, P1, hcs, _, hl, _, hm, hx, hi⟩
  · simp [Value.cells] at hcs
    obtain ⟨rfl, rfl, rfl⟩ := hcs
    exact ⟨none, 0, [], rfl, ⟨by simp, fun h => absurd h (by simp)⟩, by simp⟩
  · simp [Value.cells] at hcs
    obtain ⟨rfl, rfl, rfl⟩ := hcs
    simp only [if_true] at hm
    subst hm
    simp only [Prod.mk.injEq] at hx
    obtain ⟨hd, _⟩ := hx
    have hsz : len0 * 32 ≤ 140737488355328 := by
      have hb : Tryz.prog.bytesOf 24 = 32 := by kernel_rfl
      have h3 := hw ((((List.range len0).map fun i => DataW.agg [D0 i, D1 i]).length + ((List.range (m - len0)).map fun j => DataW.agg [D0 (len0 + j), D1 (len0 + j)]).length) * Tryz.prog.bytesOf 24) (by
        rw [hd]
        simp only [DataW.weights, Tryz.underlying42]
        exact List.mem_cons_self)
      rw [hb] at h3
      simp only [List.length_map, List.length_range] at h3
      have : reachBytes < 2 ^ 47 := reachBytes_lt
      omega
    have each : ∀ i, i < len0 → ∃ l : LvD, V0 i = .int .i64 l.c ∧ V1 i = .slice l.A l.vs.length l.cap ∧ VA W W.heap.size l.A l.vs := fun i hil => by
      obtain ⟨e0, e1, r0, r1⟩ := hi i (by omega)
      obtain ⟨c, hc, _, _⟩ := DataW.trod_int Tryz.underlying3 r0
      simp only [List.cons.injEq, and_true] at hc
      obtain ⟨A, cap, vs, hv1, hva⟩ := open_vars r1 (fun n hn => hw n (by
        rw [hd]
        simp only [DataW.weights, Tryz.underlying42]
        refine List.mem_cons_of_mem _ (List.mem_append_left _ (weights_all (d := .agg [D0 i, D1 i]) (List.mem_map.2 ⟨i, List.mem_range.2 hil, rfl⟩) n ?_))
        simp only [DataW.weights, Tryz.underlying24]
        exact DataW.weights_mem_each (j := 1) (t := 22) (d := D1 i) rfl rfl n hn))
      exact ⟨⟨c, A, cap, vs⟩, hc, hv1, hva⟩
    obtain ⟨f, hff⟩ := choose_lt each
    refine ⟨some a, m, (List.range len0).map f, by simp, ⟨by simpa using hsz, fun hn => ?_⟩, fun l hl => ?_⟩
    · simp only [List.length_map, List.length_range] at hn
      obtain ⟨b, off, spot⟩ := a
      have hs : spot = none := by simpa [Addr.add] using World.cell?_spot (hi 0 (by omega)).1
      subst hs
      refine ⟨b, off, rfl, by simpa [Addr.add] using block_lt (hi 0 (by omega)).1, fun j c a n k hj => ?_⟩
      have hjl : j < len0 := by
        have := (List.getElem?_eq_some_iff.1 hj).1
        simpa using this
      simp only [List.getElem?_map, List.getElem?_range hjl, Option.map_some, Option.some.injEq, LvD.hd, Prod.mk.injEq] at hj
      obtain ⟨rfl, rfl, rfl, rfl⟩ := hj
      obtain ⟨e0, e1, _, _⟩ := hi j (by omega)
      obtain ⟨g0, g1, _⟩ := hff j hjl
      rw [g0] at e0
      rw [g1] at e1
      rw [Addr.add_lit] at e0 e1
      rw [← Nat.add_assoc] at e1
      exact ⟨e0, e1⟩
    · obtain ⟨i, hil, rfl⟩ := List.mem_map.1 hl
      exact (hff i (List.mem_range.1 hil)).2.2
end
end Go.Proofs.YtipnabbdhmapkaaGreatDoor
