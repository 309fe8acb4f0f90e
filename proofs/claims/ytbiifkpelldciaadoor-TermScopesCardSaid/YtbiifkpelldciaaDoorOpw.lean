/- A term among a law's arguments, opened, with its numbers' bounds. -/
import Derived.Test.YtbiifkpelldciaaDoorOpt
import Derived.Test.YtbiifkpelldciaaDoorPar
namespace Go.Proofs.YtbiifkpelldciaaDoor
open Go.ChangeShapes Go.WideShapes Go.ChangeAt Go.RowKit Go.Deep Go.Joins

theorem i64_range {n : Int} (h : (Lit.int .i64 n).wf = true) : -9223372036854775808 ≤ n ∧ n ≤ 9223372036854775807 := by
  simp [Lit.wf, IntKind.min, IntKind.max, IntKind.signed, IntKind.bits] at h
  omega
theorem wfL_mem {l : List Nat} {f : Nat → Tm} (h : ∀ j ∈ l, WfT (f j)) : WfL (l.map f) := by
  induction l with
  | nil => rw [List.map_nil, WfL]; trivial
  | cons n r ih => rw [List.map_cons, WfL]; exact ⟨h n (by simp), ih fun j hj => h j (by simp [hj])⟩
theorem wfL_range {n : Nat} {f : Nat → Tm} (h : ∀ j, j < n → WfT (f j)) : WfL ((List.range n).map f) := wfL_mem fun j hj => h j (List.mem_range.1 hj)
section
variable {H : Type} {enc : TypeId × Value → H} {W : World}
set_option maxRecDepth 100000 in
/-- A term's cells. -/
theorem open_tmw : ∀ (m : Nat) (cs : List Value) (x : DataW H × List MemPlace), DataW.trod enc Tryd.prog W 0 (fun _ => true) true m 27 cs = some x → (∀ n ∈ x.1.weights Tryd.prog 27, n ≤ reachBytes) →
    ∃ (c0 c1 c2 c3 c4 : Value) (t : Tm), cs = [c0, c1, c2, c3, c4] ∧ TmV W W.heap.size t (.agg #[c0, c1, c2, c3, c4]) ∧ WfT t := by
  intro m
  induction m using Nat.strongRecOn with
  | _ m ih =>
    intro cs x h hw
    obtain ⟨xs, n, rfl, hd, hl, hn, hf⟩ := DataW.trod_struct Tryd.underlying27 h
    have hl5 : cs.length = 5 := hl.trans (by kernel_rfl)
    match cs, hl5 with
    | [c0, c1, c2, c3, c4], _ =>
    match xs, hn with
    | [y0, y1, y2, y3, y4], _ =>
    have g0 := hf 0 _ rfl
    have g1 := hf 1 _ rfl
    have g2 := hf 2 _ rfl
    have g3 := hf 3 _ rfl
    have g4 := hf 4 _ rfl
    simp only [List.getElem?_cons_zero, List.getElem?_cons_succ] at g0 g1 g2 g3 g4
    obtain ⟨k, r0, _, _⟩ := DataW.trod_int Tryd.underlying3 g0
    obtain ⟨i, r1, _, wi⟩ := DataW.trod_int Tryd.underlying3 g1
    have wi := i64_range wi
    obtain ⟨nm, r2, _, _⟩ := DataW.trod_string Tryd.underlying9 g2
    injection r0 with r0
    injection r1 with r1
    injection r2 with r2
    have hwm : ∀ (j : Nat) (ty : TypeId) (d : DataW H), ([3, 3, 9, 24, 25] : List TypeId)[j]? = some ty → [y0.1, y1.1, y2.1, y3.1, y4.1][j]? = some d → ∀ q ∈ d.weights Tryd.prog ty, q ≤ reachBytes := by
      intro j ty d hj hdj q hq
      refine hw q ?_
      rw [hd]
      simp only [DataW.weights, Tryd.underlying27]
      exact DataW.weights_mem_each (j := j) (t := ty) (d := d) hj hdj q hq
    obtain ⟨AL, cl, ls, r3, hlv⟩ := open_lvs (D3 := y3.1) (P3 := y3.2) g3 (hwm 3 _ _ rfl rfl)
    refine ⟨c0, c1, c2, c3, c4, ?_⟩
    rcases DataW.trod_slice Tryd.underlying25 g4 with ⟨r4, _⟩ | ⟨a, len, cap, elems, rest, n', rfl, r4, hx4, _, hle, _, hlen, hel, _, _⟩
    · injection r4 with r4
      refine ⟨.mk k i nm ls [], rfl, ?_⟩
      refine ⟨?_, by rw [WfT, WfL]; exact ⟨wi, trivial⟩⟩
      rw [TmV]
      exact ⟨AL, cl, none, 0, by rw [r0, r1, r2, r3, r4]; rfl, hlv, by simp, fun h => by simp at h⟩
    · injection r4 with r4
      have hc5 : Tryd.prog.cellsOf 27 = 5 := by kernel_rfl
      rw [hc5] at hel
      have hw4 := hwm 4 _ _ rfl rfl
      have hsz : len * 80 ≤ 140737488355328 := by
        have hb : Tryd.prog.bytesOf 27 = 80 := by kernel_rfl
        have h3 := hw4 (((elems.map (·.1)).length + (rest.map (·.1)).length) * Tryd.prog.bytesOf 27) (by
          rw [hx4]
          simp only [DataW.weights, Tryd.underlying25]
          exact List.mem_cons_self)
        rw [hb] at h3
        simp only [List.length_map] at h3
        have : reachBytes < 2 ^ 47 := reachBytes_lt
        have : len * 80 ≤ (elems.length + rest.length) * 80 := Nat.mul_le_mul_right _ (by omega)
        omega
      have each : ∀ j, j < len → ∃ t : Tm, ∃ d0 d1 d2 d3 d4, W.cell? (a.add (j * 5)) = some d0 ∧ W.cell? ((a.add (j * 5)).add 1) = some d1 ∧ W.cell? ((a.add (j * 5)).add 2) = some d2 ∧ W.cell? ((a.add (j * 5)).add 3) = some d3 ∧ W.cell? ((a.add (j * 5)).add 4) = some d4 ∧ (TmV W W.heap.size t (.agg #[d0, d1, d2, d3, d4]) ∧ WfT t) := by
        intro j hj
        have hej := hel j hj
        have hjl : j < elems.length := by omega
        rw [List.getElem?_eq_getElem hjl] at hej
        obtain ⟨cs', h1, h2⟩ := Option.bind_eq_some_iff.1 hej
        obtain ⟨d0, d1, d2, d3, d4, t, rfl, ht⟩ := ih n' (by omega) cs' _ h2 (fun q hq => hw4 q (by
          rw [hx4]
          simp only [DataW.weights, Tryd.underlying25]
          exact List.mem_cons_of_mem _ (List.mem_append_left _ (weights_all (List.mem_map.2 ⟨elems[j], List.getElem_mem hjl, rfl⟩) q hq))))
        unfold World.cells? at h1
        split at h1
        · have hq := fun z (hz : z < 5) => Lib.mapM_at h1 z z (by rw [List.getElem?_range hz])
          obtain ⟨e0, q0, p0⟩ := hq 0 (by omega)
          obtain ⟨e1, q1, p1⟩ := hq 1 (by omega)
          obtain ⟨e2, q2, p2⟩ := hq 2 (by omega)
          obtain ⟨e3, q3, p3⟩ := hq 3 (by omega)
          obtain ⟨e4, q4, p4⟩ := hq 4 (by omega)
          simp only [List.getElem?_cons_zero, List.getElem?_cons_succ, Option.some.injEq] at q0 q1 q2 q3 q4
          subst q0 q1 q2 q3 q4
          exact ⟨t, _, _, _, _, _, by simpa [Addr.add] using p0, p1, p2, p3, p4, ht⟩
        · cases h1
      have inh : Inhabited Tm := ⟨.mk 0 0 ⟨#[]⟩ [] []⟩
      obtain ⟨f, hff⟩ := choose_lt each
      have hwf : WfL ((List.range len).map f) := wfL_range fun j hj => by obtain ⟨_, _, _, _, _, _, _, _, _, _, _, h⟩ := hff j hj; exact h
      refine ⟨.mk k i nm ls ((List.range len).map f), rfl, ?_, by rw [WfT]; exact ⟨wi, hwf⟩⟩
      rw [TmV]
      refine ⟨AL, cl, some a, cap, by rw [r0, r1, r2, r3, r4]; simp, hlv, by simpa using hsz, fun hn => ?_⟩
      simp only [List.length_map, List.length_range] at hn
      obtain ⟨b, off, spot⟩ := a
      have hs : spot = none := by
        obtain ⟨_, _, _, _, _, h0, _⟩ := hff 0 hn
        simpa [Addr.add] using World.cell?_spot h0
      subst hs
      refine ⟨b, off, rfl, ?_, ?_⟩
      · obtain ⟨_, _, _, _, _, h0, _⟩ := hff 0 hn
        simpa [Addr.add] using block_lt h0
      · have := ksV_of (W := W) (B := W.heap.size) (b := b) f len 0 off (fun j _ hj => by
          obtain ⟨d0, d1, d2, d3, d4, p0, p1, p2, p3, p4, ht, _⟩ := hff j (by omega)
          simp only [Addr.add_lit] at p0 p1 p2 p3 p4
          exact ⟨d0, d1, d2, d3, d4, p0, p1, p2, p3, p4, ht⟩)
        rw [← List.range_eq_range', Nat.zero_mul, Nat.add_zero] at this
        exact this

set_option maxRecDepth 100000 in
theorem open_termw_arg {base : Nat} {v : Value} {d : DataW H} {p : List MemPlace} (hv : Value.okWide Tryd.prog W .any base 27 v) (h : DataW.Trod enc Tryd.prog W 0 (fun _ => true) true 27 v d p)
    (hw : ∀ n ∈ d.weights Tryd.prog 27, n ≤ reachBytes) : ∃ t : Tm, TmV W W.heap.size t v ∧ WfT t := by
  obtain ⟨cs, rfl, _⟩ := okWide_struct Tryd.underlying27 hv
  obtain ⟨fuel, hf⟩ := h
  obtain ⟨c0, c1, c2, c3, c4, t, hcs, ht⟩ := open_tmw fuel _ _ hf hw
  refine ⟨t, ?_⟩
  have : cs = #[c0, c1, c2, c3, c4] := by
    have h := hcs
    simp only [Value.cells] at h
    exact Array.ext' h
  rw [this]
  exact ht
end
end Go.Proofs.YtbiifkpelldciaaDoor
