/- offsets.vars: the offsets as a list of variables. -/
import Derived.Test.YtipnabbdhmapkaaGreatDoorSrt
import Derived.Test.YtipnabbdhmapkaaGreatDoorAsc
import Derived.Test.YtipnabbdhmapkaaGreatDoorRow
import Derived.Test.YtipnabbdhmapkaaGreatDoorParts
namespace Go.Proofs.YtipnabbdhmapkaaGreatDoor
open Go.RowKit Go.Maps

set_option maxRecDepth 100000 in
set_option maxHeartbeats 2000000 in
theorem vars_any (mb n : Nat) (M : List (Int × Int)) (w : World) (hm : OwnsM w mb n M) (hasc : Asc M) (hlen : M.length ≤ 10000000) (hwf : ∀ p ∈ M, (Lit.int .i64 p.1).wf = true) :
    Calls Tryz.prog 90 #[.map (some mb)] w (GivesOwn M w) := by
  obtain ⟨i0, hi, hz0, hz1, hz2⟩ := info_parts info62
  have hml := World.ownsMap.lt hm
  have hK := Lib.hid (Tryz.maps_Keys (some mb) w)
  have hsz : Maps.size (mapD M) = M.length := by simp [mapD, Maps.size]
  have hS := Lib.hid (Tryz.slices_Sorted_keys mb n (mapD M) _ w hm (by rw [hsz]; unfold maxLen; omega) (by rw [hsz]; omega))
  go_enter Tryz.func90, Tryz.ntmps90
  go_wp2_with fail
  refine hK.out.mono ?_
  rintro e w1 ⟨rfl, rfl⟩
  go_wp2_with fail
  refine hS.out.mono ?_
  rintro e w2 ⟨v, ss, rfl, hperm, hrow, hnil, hb⟩
  rw [intKeys_mapD] at hperm
  rw [keys_sorted hasc hperm] at hrow
  have hssl : ss.length = M.length := by simpa using hperm.length_eq
  rw [hssl] at hrow
  have hs2 := hb.size
  simp only [World.size_alloc] at hs2
  have hbW : Below w.heap.size w w2 := ((Below.refl _ w).alloc (Nat.le_refl _) _).trans (hb.mono (by simp))
  have hHm := Lib.hid (show ∀ W, Below w2.heap.size w2 W → OwnsM W mb n M from fun W h => by
    have h1 : w2.heap[mb]? = w.heap[mb]? := hbW.block mb hml
    have h2 : W.heap[mb]? = w2.heap[mb]? := h.block mb (by omega)
    obtain ⟨es, clock, e, F, hs, hD⟩ := hm
    exact ⟨es, clock, (h2.trans h1).trans e, F, hs, hD⟩)
  have HROW := Lib.hid hrow
  have HBW := Lib.hid (And.intro hbW (And.intro hasc hwf))
  obtain ⟨A, cap, rfl⟩ : ∃ A cap, v = .slice A M.length cap := by
    rcases hrow.2 with ⟨rfl, h0⟩ | ⟨g, cap, cur, rfl, _⟩
    · exact ⟨none, 0, by rw [h0]⟩
    · exact ⟨_, _, rfl⟩
  have hkey : Hid (∀ (k : Nat) (x y : Int), M[k]? = some (x, y) → ∃ g, A = some ⟨g, 0, none⟩ ∧ g < w2.heap.size ∧ w2.cell? ⟨g, k, none⟩ = some (.int .i64 x)) := Lib.hid (by
    intro k x y hk
    have hkl : k < M.length := (List.getElem?_eq_some_iff.1 hk).1
    rcases HROW.out.2 with ⟨_, h0⟩ | ⟨g, cap', cur, hv, _, hg, _⟩
    · omega
    · injection hv with hA _ _
      refine ⟨g, hA, (Array.getElem?_eq_some_iff.1 hg).1, ?_⟩
      have := HROW.out.cells (g := g) (by rw [hA]; rfl) k (.int .i64 x) (by rw [List.map_map, List.getElem?_map, hk]; rfl)
      rw [Addr.add_lit] at this
      simpa using this)
  clear hm hasc hwf hrow hb hbW hperm hnil hssl hK hS
  go_wp2_with fail
  go_loopw [3, 10] (fun v i wr => ∃ k : Nat, k ≤ M.length ∧ i = .int .i64 k ∧ Own2 wr w2.heap.size v (M.take k) ∧ Below w2.heap.size w2 wr) (fun _ i _ => M.length - (intOf i).toNat)
  case atStart => exact ⟨0, Nat.zero_le _, rfl, World.ownsRow_nil _ _ _ _, Below.refl _ _⟩
  case round =>
    obtain ⟨k, hk, rfl, hown, hbr⟩ := hrel
    have hsr := hbr.size
    by_cases hlk : k < M.length
    · rcases hMk : M[k]? with _ | ⟨x, y⟩
      · rw [List.getElem?_eq_none_iff] at hMk; omega
      obtain ⟨g, rfl, hgl, hcg⟩ := hkey.out k x y hMk
      have hcr := (hbr.cell (p := ⟨g, k, none⟩) hgl).trans hcg
      have hmem : (x, y) ∈ M := List.mem_of_getElem? hMk
      have hkl := keyOf_int_mk (P := Tryz.prog) Tryz.underlying3 (HBW.out.2.2 _ hmem)
      have hoff := offAt_mem HBW.out.2.1 hmem
      have HM := Lib.hid (And.intro hMk hoff)
      have hmr := hHm.out wr hbr
      unfold OwnsM at hmr
      have HO := Lib.hid hown
      have hHB := Lib.hid hbr
      have htl : (M.take k).length = k := by simp; omega
      clear hMk hmem hoff hcg hown hbr
      go_wp2_with (first
        | (at_lookup; refine wpList_lookup_own_int _ rfl _ _ 100 rfl 3 3 .i64 law3 Tryz.underlying100 Tryz.underlying3 (zero3 _) mb n _ rfl hmr _ _ rfl hkl ?_; intro c hat hwc)
        | (at_builtin; refine wpList_append_own _ rfl _ _ 22 rfl w2.heap.size 69 i0 (.agg #[.int .i64 0, .int .i64 0]) 2 16 Tryz.underlying22 hi hz0 hz1 hz2 rfl (by decide) _ _ _ rfl (World.ownsRow.alloc HO.out _) ⟨wr.heap.size, 0, none⟩ 1 1 [.int .i64 x, .int .i64 c] rfl rfl ?c1 ?c2 ?c3 ?c4 ?c5 ?_))
      case c2 => exact ⟨rfl, rfl⟩
      case c3 => unfold maxLen; omega
      case c4 => omega
      case c5 => omega
      intro v' w5 hown' hgrow _
      rw [atKey_mapD, HM.out.2] at hat
      injection hat with hat
      injection hat with _ hat
      subst hat
      have hrow : ∀ j, u3.ownBlock = some j → w2.heap.size ≤ j := fun j hj => (World.ownsRow.lt HO.out j hj).1
      have HN := Lib.hid (show Own2 w5 w2.heap.size v' (M.take (k + 1)) ∧ Below w2.heap.size w2 w5 from by
        refine ⟨?_, ?_⟩
        · unfold Own2
          have e1 : M.take (k + 1) = M.take k ++ [(x, y)] := by rw [List.take_add_one, HM.out.1]; rfl
          rw [e1, flat_append]
          have e2 : (M.take k ++ [(x, y)]).length = k + 1 := by simp [htl]
          rw [e2]
          exact hown'
        · exact Below.grown (hHB.out.alloc hsr _) hgrow (by simp; omega) hrow)
      clear hown' hgrow hrow
      go_wp2
      go_roundw
      case rel => exact ⟨k + 1, hlk, rfl, HN.out.1, HN.out.2⟩
      case measure => simp [intOf]; omega
    · have hke : k = M.length := by omega
      subst hke
      rw [List.take_length] at hown
      have HO := Lib.hid (And.intro hown hbr)
      clear hown hbr
      go_wp2
      go_ret
      exact ⟨_, rfl, Go.Proofs.ownsRow_base_a HO.out.1 (by omega), HBW.out.1.trans (HO.out.2.mono (by omega))⟩
end Go.Proofs.YtipnabbdhmapkaaGreatDoor
