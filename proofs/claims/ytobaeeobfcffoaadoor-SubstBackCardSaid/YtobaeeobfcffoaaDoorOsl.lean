/- A list of terms among a law's arguments, opened, with its numbers' bounds. -/
import Derived.Test.YtobaeeobfcffoaaDoorOpw
import Derived.Test.YtobaeeobfcffoaaDoorUnp
namespace Go.Proofs.YtobaeeobfcffoaaDoor
open Go.ChangeShapes Go.WideShapes Go.ChangeAt Go.RowKit Go.Deep Go.Joins
section
variable {H : Type} {enc : TypeId × Value → H} {W : World}
set_option maxRecDepth 100000 in
theorem open_terms_arg {base : Nat} {v : Value} {d : DataW H} {p : List MemPlace} (hv : Value.okWide Tryd.prog W .any base 23 v) (h : DataW.Trod enc Tryd.prog W 0 (fun _ => true) true 23 v d p)
    (hw : ∀ n ∈ d.weights Tryd.prog 23, n ≤ reachBytes) : ∃ (P : Option Addr) (cap : Nat) (ts : List Tm), v = .slice P ts.length cap ∧ VsV W W.heap.size P ts ∧ ∀ x ∈ ts, WfT x := by
  obtain ⟨a0, len0, cap0, rfl⟩ := okWide_slice Tryd.underlying23 hv
  obtain ⟨fuel, hf⟩ := h
  rcases DataW.trod_slice Tryd.underlying23 hf with ⟨r4, _⟩ | ⟨a, len, cap, elems, rest, n', rfl, r4, hx4, _, hle, _, hlen, hel, _, _⟩
  · simp [Value.cells] at r4
    obtain ⟨rfl, rfl, rfl⟩ := r4
    exact ⟨none, 0, [], rfl, ⟨by simp, fun h => absurd h (by simp)⟩, fun x hx => by cases hx⟩
  · simp [Value.cells] at r4
    obtain ⟨rfl, rfl, rfl⟩ := r4
    have hx4 := (Prod.mk.inj hx4).1
    have hc5 : Tryd.prog.cellsOf 25 = 5 := by kernel_rfl
    rw [hc5] at hel
    have hw4 := hw
    have hsz : len0 * 80 ≤ 140737488355328 := by
      have hb : Tryd.prog.bytesOf 25 = 80 := by kernel_rfl
      have h3 := hw4 (((elems.map (·.1)).length + (rest.map (·.1)).length) * Tryd.prog.bytesOf 25) (by
        rw [hx4]
        simp only [DataW.weights, Tryd.underlying23]
        exact List.mem_cons_self)
      rw [hb] at h3
      simp only [List.length_map] at h3
      have : reachBytes < 2 ^ 47 := reachBytes_lt
      have : len0 * 80 ≤ (elems.length + rest.length) * 80 := Nat.mul_le_mul_right _ (by omega)
      omega
    have each : ∀ j, j < len0 → ∃ t : Tm, ∃ d0 d1 d2 d3 d4, W.cell? (a.add (j * 5)) = some d0 ∧ W.cell? ((a.add (j * 5)).add 1) = some d1 ∧ W.cell? ((a.add (j * 5)).add 2) = some d2 ∧ W.cell? ((a.add (j * 5)).add 3) = some d3 ∧ W.cell? ((a.add (j * 5)).add 4) = some d4 ∧ (TmV W W.heap.size t (.agg #[d0, d1, d2, d3, d4]) ∧ WfT t) := by
      intro j hj
      have hej := hel j hj
      have hjl : j < elems.length := by omega
      rw [List.getElem?_eq_getElem hjl] at hej
      obtain ⟨cs', h1, h2⟩ := Option.bind_eq_some_iff.1 hej
      obtain ⟨d0, d1, d2, d3, d4, t, rfl, ht⟩ := open_tmw n' cs' _ h2 (fun q hq => hw4 q (by
        rw [hx4]
        simp only [DataW.weights, Tryd.underlying23]
        exact List.mem_cons_of_mem _ (List.mem_append_left _ (weights_all (List.mem_map.2 ⟨elems[j], List.getElem_mem hjl, rfl⟩) q hq))))
      unfold World.cells? at h1
      split at h1
      · have hq := fun z (hz : z < 5) => Lib.mapM_at h1 z z (by rw [List.getElem?_range hz])
        obtain ⟨e0, q0, p0⟩ := hq 0 (by omega)
        obtain ⟨e1, q1, p1⟩ := hq 1 (by omega)
        obtain ⟨e2, q2, p2⟩ := hq 2 (by omega)
        obtain ⟨e3, q3, p3⟩ := hq 3 (by omega)
        obtain ⟨e4, q4, p4⟩ := hq 4 (by omega)
        simp only [List.getElem?_cons_zero, List.getElem?_cons_succ, Option.some.injEq] at q0 q1 q2 q3 q4
        subst q0 q1 q2 q3 q4
        exact ⟨t, _, _, _, _, _, by simpa [Addr.add] using p0, p1, p2, p3, p4, ht⟩
      · cases h1
    have inh : Inhabited Tm := ⟨.mk 0 0 ⟨#[]⟩ [] []⟩
    obtain ⟨f, hff⟩ := choose_lt each
    have hwf : WfL ((List.range len0).map f) := wfL_range fun j hj => by obtain ⟨_, _, _, _, _, _, _, _, _, _, _, h⟩ := hff j hj; exact h
    refine ⟨some a, cap0, (List.range len0).map f, by simp, ⟨by simpa using hsz, fun hn => ?_⟩, fun x hx => ?_⟩
    · simp only [List.length_map, List.length_range] at hn
      obtain ⟨b, off, spot⟩ := a
      have hs : spot = none := by
        obtain ⟨_, _, _, _, _, h0, _⟩ := hff 0 hn
        simpa [Addr.add] using World.cell?_spot h0
      subst hs
      refine ⟨b, off, rfl, ?_, ?_⟩
      · obtain ⟨_, _, _, _, _, h0, _⟩ := hff 0 hn
        simpa [Addr.add] using block_lt h0
      · have := ksV_of (W := W) (B := W.heap.size) (b := b) f len0 0 off (fun j _ hj => by
          obtain ⟨d0, d1, d2, d3, d4, p0, p1, p2, p3, p4, ht, _⟩ := hff j (by omega)
          simp only [Addr.add_lit] at p0 p1 p2 p3 p4
          exact ⟨d0, d1, d2, d3, d4, p0, p1, p2, p3, p4, ht⟩)
        rw [← List.range_eq_range', Nat.zero_mul, Nat.add_zero] at this
        exact this
    · obtain ⟨j, hj, rfl⟩ := List.mem_map.1 hx
      obtain ⟨_, _, _, _, _, _, _, _, _, _, _, h⟩ := hff j (List.mem_range.1 hj)
      exact h
end
end Go.Proofs.YtobaeeobfcffoaaDoor
