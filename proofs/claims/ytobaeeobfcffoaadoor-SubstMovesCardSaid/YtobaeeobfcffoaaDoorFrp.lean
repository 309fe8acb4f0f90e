/- Free. -/
import Derived.Test.YtobaeeobfcffoaaDoorChp
import Derived.Test.YtobaeeobfcffoaaDoorSrt
import Derived.Test.YtobaeeobfcffoaaDoorMpb
namespace Go.Proofs.YtobaeeobfcffoaaDoor
open Go.RowKit Go.Shelf Go.Maps
attribute [local go_sem] Oper.semAt_some

/-- A new slice of numbers. -/
def GivesI (S : List Int) (w : World) (e : Ending) (w' : World) : Prop := ∃ v, e = .returned v ∧ w'.ownsRow w.heap.size 3 1 v S.length (S.map encZ) ∧ Below w.heap.size w w'
/-- The free variables of a term, ascending. -/
def freeT (t : Tm) : List Int := freeS (preT t 0 1)

set_option maxRecDepth 100000 in
set_option maxHeartbeats 8000000 in
theorem tfree_any (t : Tm) (v : Value) (B : Nat) (w : World) (hv : TmV w B t v) (hB : B ≤ w.heap.size) (hB0 : 0 < B) (hsh : ShapesB w) (hsz : szT t ≤ 1000000000) :
    Calls Tryd.prog 23 #[v] w (GivesI (freeT t) w) := by
  have HV := Lib.hid hv
  obtain ⟨k, i, nm, AL, nl, cl, AK, ck, rfl, _, _⟩ := hv.open_
  clear hv
  have hmm := @run_makeMap Tryd.prog
  refine (callsIn_wide (n := 6)).1 ?_
  refine callsIn_of_wp_marks Tryd.func23 rfl trivial ?_ rfl
  simp only [Tryd.ntmps23, List.size_toArray, List.length_cons, List.length_nil, Nat.reduceAdd, Nat.reduceSub, Array.replicate_succ, Array.replicate_zero, List.push_toArray, List.append_toArray, List.nil_append, List.cons_append]
  gi_wp2_with fail
  obtain ⟨W0, hW0⟩ : ∃ W0, W0 = ((w.alloc (.cells #[.int .i64 k, .int .i64 i, .string nm, .slice AL nl cl, .slice AK t.kids.length ck] 25)).alloc (.map #[] 0)).alloc (.cells #[.map (some (w.heap.size + 1))] 79) := ⟨_, rfl⟩
  rw [← hW0]
  have hs0 : W0.heap.size = w.heap.size + 1 + 1 + 1 := by rw [hW0]; simp
  have hb0 : Below w.heap.size w W0 := by rw [hW0]; exact (((Below.refl _ _).alloc (Nat.le_refl _) _).alloc (by simp) _).alloc (by simp; omega) _
  have q1 : OwnsB W0 (w.heap.size + 1) 0 [] := by
    rw [hW0]
    have h := (World.ownsMap_made (w.alloc (.cells #[.int .i64 k, .int .i64 i, .string nm, .slice AL nl cl, .slice AK t.kids.length ck] 25)) Tryd.prog 3 (plainElem (H := Unit) Tryd.prog 4)).alloc (.cells #[.map (some (w.heap.size + 1))] 79)
    rw [World.size_alloc] at h
    exact h
  have q2 : Boxed W0 (w.heap.size + 1 + 1) 79 (.map (some (w.heap.size + 1))) := by
    rw [hW0]
    have h := Boxed.new ((w.alloc (.cells #[.int .i64 k, .int .i64 i, .string nm, .slice AL nl cl, .slice AK t.kids.length ck] 25)).alloc (.map #[] 0)) 79 (.map (some (w.heap.size + 1)))
    simpa only [World.size_alloc] using h
  clear hW0
  refine ⟨trivial, ?_⟩
  refine (nodes_in _ k i nm AL nl cl AK _ ck _).mono ?_
  rintro e w3 ⟨rfl, hw3⟩
  rw [hs0]
  have hb3 : Below w.heap.size w w3 := by rw [hw3]; exact hb0.alloc (by omega) _
  have hbW : Below W0.heap.size W0 w3 := by rw [hw3]; exact (Below.refl _ _).alloc (Nat.le_refl _) _
  have hs3 : w.heap.size + 1 + 1 + 1 < w3.heap.size := by rw [hw3]; simp; omega
  have ht3 : w3.heap[w.heap.size + 1 + 1 + 1]? = some (.cells #[.int .i64 k, .int .i64 i, .string nm, .slice AL nl cl, .slice AK t.kids.length ck] 25 (0, 0)) := by
    have h := World.alloc_heap_new W0 (.cells #[.int .i64 k, .int .i64 i, .string nm, .slice AL nl cl, .slice AK t.kids.length ck] 25)
    rw [← hw3, hs0] at h
    exact h
  replace q1 : OwnsB w3 (w.heap.size + 1) 0 [] := by rw [hw3]; exact World.ownsMap.alloc q1 _
  replace q2 := (hbW.block _ (by omega)).trans q2
  have hcell : ∀ j u, (#[Value.int .i64 k, .int .i64 i, .string nm, .slice AL nl cl, .slice AK t.kids.length ck] : Array Value)[j]? = some u → w3.cell? ⟨w.heap.size + 1 + 1 + 1, j, none⟩ = some u := fun j u h => (cell_of_row _ _ _ _ _ _ ht3).trans h
  have hroot : NodeAt w3 w.heap.size (w.heap.size + 1 + 1 + 1) ⟨⟨t, 0, 1⟩, w.heap.size + 1 + 1 + 1, 0⟩ :=
    ⟨.inr rfl, _, _, _, _, _, hcell 0 _ rfl, hcell 1 _ rfl, hcell 2 _ rfl, hcell 3 _ rfl, hcell 4 _ rfl, (HV.out.more hB).below hb3 (Nat.le_refl _)⟩
  have hsh3 : ShapesB w3 := fun k hk => (hb3.cell (p := ⟨0, k * 5 + 4, none⟩) (by show 0 < w.heap.size; omega)).trans (hsh k hk)
  clear hw3 ht3 hcell hsh hb0 hbW hs0
  gi_wp2_with fail
  refine wpIn_rangeB rfl (by decide) (gf := 65) (lb := #[.pointer (some ⟨w.heap.size + 1 + 1 + 1, 0, none⟩)]) rfl trivial (enters_of Tryd.func65 (by kernel_rfl) rfl)
    (Kp := KAt w.heap.size (w.heap.size + 1 + 1 + 1)) (nd_seq 5 (by decide) (w.heap.size + 1 + 1 + 1) w.heap.size t w3 hroot hsh3 (by omega) hsz ⟨by omega, by omega⟩) (fun h k => KAt.trans h k)
    (fun W l o h1 h2 => KAt.grown (grownBy_putObj' W l o) (by omega) (by omega) (fun r e => by cases e; omega)) (fun _ => rfl)
    (fun pre W => Boxed W (w.heap.size + 1 + 1) 79 (.map (some (w.heap.size + 1))) ∧ OwnsB W (w.heap.size + 1) pre.length (freeS (pre.map Nx.nd)) ∧ KAt w.heap.size (w.heap.size + 1 + 1 + 1) w3 W) (fun _ _ _ => False) ?hI (fun _ _ _ _ h _ => h) ⟨q2, q1, KAt.refl _ _ _⟩
    (fun x a' W => ∃ Bx, w3.heap.size + 2 ≤ Bx ∧ W.heap[Bx]? = some (.cells #[.pointer (some ⟨x.blk, x.off, none⟩), .int .i64 x.nd.b, .int .i64 x.nd.d] 85 (0, 0)) ∧ a' = { tmps := #[.agg #[.int .i64 k, .int .i64 i, .string nm, .slice AL nl cl, .slice AK t.kids.length ck], .pointer (some ⟨w.heap.size, 0, none⟩), .slice none 0 0, .pointer (some ⟨w.heap.size + 1 + 1, 0, none⟩), .pointer (some ⟨Bx, 0, none⟩), undef, undef, .map (some (w.heap.size + 1)), .agg #[.int .i64 k, .int .i64 i, .string nm, .slice AL nl cl, .slice AK t.kids.length ck], .func (.func 65) #[] #[.pointer (some ⟨w.heap.size + 1 + 1 + 1, 0, none⟩)], .agg #[.pointer (some ⟨x.blk, x.off, none⟩), .int .i64 x.nd.b, .int .i64 x.nd.d], undef, undef, undef, undef, undef, undef, undef, undef, undef, undef, undef], defers := [] })
    (fun x a' W o ⟨Bx, h1, h2, h3⟩ => ⟨Bx, h1, (World.putObj_heap_other (by omega)).trans h2, h3⟩) ?assign ?body ?done (fun _ _ _ _ h _ => h.elim)
  case hI =>
    rintro pre W W' ⟨h1, h2, h3⟩ hb
    have hl := World.ownsMap.lt h2
    obtain ⟨es, clock, e, F, hs, hD⟩ := h2
    exact ⟨(hb.block _ (by omega)).trans h1, ⟨es, clock, (hb.block _ (by omega)).trans e, F, hs, hD⟩, h3.trans ⟨hb.mono (by omega), hb.block _ (by omega)⟩⟩
  case assign =>
    intro l pre x W K hs hgd hi hK
    simp only [encN]
    gi_wp2_with fail
    refine hK _ _ (HighB.grown (World.grownBy_alloc _ _ none) (fun r e => by cases e)) (KAt.grown (World.grownBy_alloc _ _ none) (by omega) (by omega) (fun r e => by cases e)) ⟨hi.1.alloc _, World.ownsMap.alloc hi.2.1 _, hi.2.2.trans (KAt.grown (World.grownBy_alloc _ _ none) (by omega) (by omega) (fun r e => by cases e))⟩ ⟨W.heap.size, hs, World.alloc_heap_new _ _, ?_⟩
    rfl
  case body =>
    rintro pre x a' W hs hgd ⟨hc, hm, hk⟩ ⟨Bx, hBx, hcx, rfl⟩ hlt
    have hxw := hgd.keep hk
    obtain ⟨xk, xi, xnm, xls, xks, xAL, xcl, xAK, xck, hxt, h0, h1, h2, h3, h4, hlv⟩ := hxw.full
    have f0 : W.cell? ⟨Bx, 0, none⟩ = some (.pointer (some ⟨x.blk, x.off, none⟩)) := cell_of_row _ _ _ _ _ _ hcx
    have f1 : W.cell? ⟨Bx, 1, none⟩ = some (.int .i64 x.nd.b) := cell_of_row _ _ _ _ _ _ hcx
    have f2 : W.cell? ⟨Bx, 2, none⟩ = some (.int .i64 x.nd.d) := cell_of_row _ _ _ _ _ _ hcx
    have hCK := Lib.hid (free_any x.blk x.off xk xi x.nd.b x.nd.d W h0 h1 (World.block_lt_of_cell? W _ h0))
    have HST : Hid (freeS ((pre ++ [x]).map Nx.nd) = if isFree xk xi x.nd.b = true then insS (freeV xk xi x.nd.b) (freeS (pre.map Nx.nd)) else freeS (pre.map Nx.nd)) := Lib.hid (by
      rw [List.map_append, List.map_singleton, freeS_snoc]
      unfold stepF
      rw [hxt])
    have HL : Hid ((pre ++ [x]).length = pre.length + 1) := Lib.hid (by rw [List.length_append, List.length_singleton])
    clear h0 h1 h2 h3 h4 hlv hxw hxt
    gi_wp2_with fail
    refine ⟨trivial, ?_⟩
    refine (callsIn_wide.2 hCK.out).mono ?_
    clear hCK
    rintro e w2 ⟨rfl, hb2⟩
    have hs2 := hb2.size
    have hml := World.ownsMap.lt hm
    replace hc : Boxed w2 (w.heap.size + 1 + 1) 79 (.map (some (w.heap.size + 1))) := (hb2.block _ hc.lt).trans hc
    replace hm : OwnsB w2 (w.heap.size + 1) pre.length (freeS (pre.map Nx.nd)) := by
      obtain ⟨es, clock, e, F, hs, hD⟩ := hm
      exact ⟨es, clock, (hb2.block _ hml).trans e, F, hs, hD⟩
    have hkw2 : KAt w.heap.size (w.heap.size + 1 + 1 + 1) W w2 := ⟨hb2.mono (by omega), hb2.block _ (by omega)⟩
    have hhi : HighB w3.heap.size W w2 := ⟨hb2.size, fun r _ h => hb2.block r h⟩
    have hc0 := hc.cell
    have HKW := Lib.hid (And.intro hk (And.intro hkw2 (And.intro hhi (And.intro hc hm))))
    clear hb2 f0 f1 f2 hcx hk hkw2 hhi
    cases hf : isFree xk xi x.nd.b with
    | false =>
      have HE : Hid (freeS ((pre ++ [x]).map Nx.nd) = freeS (pre.map Nx.nd)) := Lib.hid (by rw [HST.out, hf, if_neg (by decide)])
      clear hf
      gi_wp2_with fail
      obtain ⟨hk, hkw2, hhi, hc, hm⟩ := HKW.out
      refine ⟨hhi, hkw2, hc, ?_, hk.trans hkw2⟩
      rw [HE.out, HL.out]
      exact World.ownsMap.mono hm (by omega)
    | true =>
      have HE : Hid (freeS ((pre ++ [x]).map Nx.nd) = insS (freeV xk xi x.nd.b) (freeS (pre.map Nx.nd))) := Lib.hid (by rw [HST.out, hf, if_pos rfl])
      have hwf : (Lit.int .i64 (freeV xk xi x.nd.b)).wf = true := by
        unfold freeV
        rw [if_pos hf]
        exact wrap_wf _
      clear hf
      unfold OwnsB at hm
      generalize freeV xk xi x.nd.b = fv at *
      gi_wp2_with (gi_at_mapUpdate; refine wpListIn_mapUpdate_own _ rfl _ _ _ 79 rfl 3 4 (Maps.int_keyed Tryd.underlying3) Tryd.underlying79 _ (w.heap.size + 1) pre.length _ rfl hm (by unfold maxLen; omega) _ _ _ rfl rfl (Maps.keyOf_int_mk Tryd.underlying3 hwf) _ [] (plainElem_bool Tryd.underlying4 true) ?_; intro w5 hown5 hgrow5)
      obtain ⟨hk, hkw2, hhi, hc, _⟩ := HKW.out
      have hg5 : KAt w.heap.size (w.heap.size + 1 + 1 + 1) w2 w5 := KAt.grown hgrow5 (by omega) (by omega) (fun r e => by cases e; omega)
      refine ⟨hhi.trans (HighB.grown hgrow5 (fun r e => by cases e; omega)), hkw2.trans hg5, hc.kept hgrow5 (fun e => by injection e with e; omega), ?_, hk.trans (hkw2.trans hg5)⟩
      rw [HE.out, HL.out]
      rw [put_mapB] at hown5
      exact hown5
  case done =>
    rintro xs W hs hS ⟨hc, hm, hk⟩ hD
    have hxl : xs.length = szT t := by
      have h := congrArg List.length hS
      rw [List.length_map, preT_length] at h
      exact h
    rw [hS] at hm
    have hc0 := hc.cell
    have hml := World.ownsMap.lt hm
    have hfl := freeS_length (preT t 0 1)
    rw [preT_length] at hfl
    have hsz' : Maps.size (mapB (freeS (preT t 0 1))) = (freeS (preT t 0 1)).length := by simp [mapB, Maps.size]
    have hK := Lib.hid (Tryd.maps_Keys (some (w.heap.size + 1)) W)
    have hSo := Lib.hid (Tryd.slices_Sorted_keys (w.heap.size + 1) xs.length (mapB (freeS (preT t 0 1))) _ W hm (by rw [hsz']; unfold maxLen; omega) (by rw [hsz']; omega))
    have HW := Lib.hid (And.intro hk (And.intro hb3 hD))
    have hDl := (Array.getElem?_eq_some_iff.1 hD).1
    clear hk hD hm hc hsz' hS
    gi_wp2_with fail
    refine ⟨trivial, ?_⟩
    refine (callsIn_wide.2 hK.out).mono ?_
    rintro e w5 ⟨rfl, hw5⟩
    subst hw5
    gi_wp2_with fail
    refine ⟨trivial, ?_⟩
    refine (callsIn_wide.2 hSo.out).mono ?_
    rintro e w6 ⟨v, ss, rfl, hperm, hrow, hnil, hb⟩
    rw [intKeys_mapB] at hperm
    rw [sorted_asc (freeS_asc _) hperm, hperm.length_eq] at hrow
    clear hK hSo hperm hnil
    have HR := Lib.hid (And.intro hrow hb)
    clear hrow hb
    gi_wp2_with fail
    obtain ⟨hk, hb3, hD⟩ := HW.out
    obtain ⟨hrow, hb⟩ := HR.out
    have hsW := hb.size
    simp only [World.size_alloc] at hsW
    have hD6 : w6.heap[w3.heap.size]? = some (.deferred (some [])) := (hb.block _ (by simp; omega)).trans ((Below.heap_alloc _ _ _ hDl).trans hD)
    refine ⟨by simp, .inl ⟨_, _, rfl, run_takeDeferred hD6, ?_⟩⟩
    refine ⟨v, by simp [results, Tryd.results23, go_sem], v, rfl, ?_, ?_⟩
    · refine Go.Proofs.ownsRow_base_a (World.ownsRow.kept hrow (grownBy_putObj' w6 w3.heap.size (.deferred none)) ?_) (by simp; omega)
      cases hob : v.ownBlock with
      | none => exact .inl rfl
      | some q =>
        have := World.ownsRow.lt hrow q hob
        simp only [World.size_alloc] at this
        exact .inr (by intro e; cases e; omega)
    · exact ((((hb3.trans (hk.below)).alloc (by omega) _).trans (hb.mono (by simp; omega)))).grown (grownBy_putObj' w6 w3.heap.size (.deferred none)) (by omega) (fun r e => by cases e; omega)
end Go.Proofs.YtobaeeobfcffoaaDoor
