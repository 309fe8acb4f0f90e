/- Metas of the reference. -/
import Derived.Test.YtpkheelcfkiacaaGreatDoorVlu
import Derived.Test.YtpkheelcfkiacaaGreatDoorPrm
namespace Go.Proofs.YtpkheelcfkiacaaGreatDoor
open Go.RowKit

/-- The metavariables among the variables from the k-th on, the last first. -/
def metK (vs : List (Int × Int)) (k : Nat) : List Int := ((vs.drop k).reverse.filter fun p => decide (p.1 < 0)).map fun p => -1 - p.1
/-- The metavariables of a level. -/
def metL (c : Int) (vs : List (Int × Int)) : List Int := if vldB c vs = true then metK vs 0 else []
theorem metK_end (vs : List (Int × Int)) : metK vs vs.length = [] := by simp [metK]
theorem metK_len (vs : List (Int × Int)) (k : Nat) : (metK vs k).length ≤ vs.length := by
  unfold metK
  rw [List.length_map]
  refine Nat.le_trans (List.length_filter_le _ _) ?_
  simp
theorem metK_yes {vs : List (Int × Int)} {k : Nat} {x y : Int} (hg : vs[k]? = some (x, y)) (h : x < 0) : metK vs k = metK vs (k + 1) ++ [-1 - x] := by
  obtain ⟨hk, he⟩ := List.getElem?_eq_some_iff.1 hg
  unfold metK
  rw [List.drop_eq_getElem_cons hk, he, List.reverse_cons, List.filter_append, List.map_append]
  simp [h]
theorem metK_no {vs : List (Int × Int)} {k : Nat} {x y : Int} (hg : vs[k]? = some (x, y)) (h : ¬ x < 0) : metK vs k = metK vs (k + 1) := by
  obtain ⟨hk, he⟩ := List.getElem?_eq_some_iff.1 hg
  unfold metK
  rw [List.drop_eq_getElem_cons hk, he, List.reverse_cons, List.filter_append, List.map_append]
  simp [h]
theorem metL_no {c : Int} {vs : List (Int × Int)} (h : vldB c vs = false) : metL c vs = [] := by simp [metL, h]
theorem metL_yes {c : Int} {vs : List (Int × Int)} (h : vldB c vs = true) : metL c vs = metK vs 0 := by simp [metL, h]

theorem info3 : (Tryz.prog.info? 3).map (fun i => (i.zero, i.size, i.bytes)) = some (some (.int .i64 0), 1, 8) := by kernel_rfl
/-- The slice value v is memory of the call's own, from block base on, and holds ms. -/
def Own1 (w : World) (base : Nat) (v : Value) (ms : List Int) : Prop := w.ownsRow base 3 1 v ms.length (ms.map (Value.int .i64))
theorem Own1.slice {w : World} {base : Nat} {v : Value} {ms : List Int} (h : Own1 w base v ms) : ∃ A c, v = .slice A ms.length c := by
  rcases h.2 with ⟨rfl, h0⟩ | ⟨g, cap, cur, rfl, _⟩
  · exact ⟨none, 0, by rw [h0]⟩
  · exact ⟨_, _, rfl⟩
theorem Own1.ia {w : World} {base : Nat} {A : Option Addr} {c n : Nat} {ms : List Int} (h : Own1 w base (.slice A n c) ms) (hl : ms.length * 8 ≤ 140737488355328) : IA w w.heap.size A ms := by
  refine ⟨hl, fun hn => ?_⟩
  rcases h.2 with ⟨_, h0⟩ | ⟨g, cap, cur, hv, _, hg, _⟩
  · omega
  · injection hv with hA _ _
    subst hA
    refine ⟨g, 0, rfl, (Array.getElem?_eq_some_iff.1 hg).1, fun j p hj => ?_⟩
    have hc := h.cells (g := g) rfl j (.int .i64 p) (by rw [List.getElem?_map, hj]; rfl)
    rw [Addr.add_lit] at hc
    exact hc
theorem own1_one (ms : List Int) : ∀ u ∈ ms.map (Value.int .i64), u.oneCell' = true := by
  intro u hu
  obtain ⟨t, _, rfl⟩ := List.mem_map.1 hu
  rfl
/-- The call returns a slice that reads as ms. -/
def GivesIA (ms : List Int) (w : World) (e : Ending) (w' : World) : Prop := ∃ A cap, e = .returned (.slice A ms.length cap) ∧ IA w' w'.heap.size A ms ∧ Below w.heap.size w w'

theorem int_one_new (W : World) (a : Value) (t : TypeId) : ∀ j u, [a][j]? = some u → (W.alloc (.cells #[a] t)).cell? ((⟨W.heap.size, 0, none⟩ : Addr).add j) = some u := by
  intro j u hj
  rw [Addr.add_lit]
  rcases j with _ | j
  · simp at hj; subst hj; go_simp
  · simp at hj

set_option maxRecDepth 100000 in
set_option maxHeartbeats 2000000 in
theorem rmetas_any (c : Int) (A : Option Addr) (cap : Nat) (vs : List (Int × Int)) (B : Nat) (w : World) (hv : VA w B A vs) (hB : B ≤ w.heap.size) :
    Calls Tryz.prog 39 #[.agg #[.int .i64 c, .slice A vs.length cap]] w (GivesIA (metL c vs) w) := by
  have hlen := hv.len
  obtain ⟨i0, hi, hz0, hz1, hz2⟩ := info_parts info3
  go_enter Tryz.func39, Tryz.ntmps39
  go_wp2_with fail
  refine (rvalid_any c A cap vs B _ (hv.alloc hB _) (by simp; omega)).mono ?_
  rintro e w1 ⟨rfl, hb1⟩
  have hs1 : w.heap.size + 1 ≤ w1.heap.size := by have := hb1.size; simpa using this
  have hf1 : Below w.heap.size w w1 := ((Below.refl _ _).alloc (Nat.le_refl _) _).trans (hb1.mono (by simp))
  have l1 : w1.cell? ⟨w.heap.size, 1, none⟩ = some (.slice A vs.length cap) := (hb1.cell (p := ⟨w.heap.size, 1, none⟩) (by simp)).trans (by go_simp)
  have HF1 := Lib.hid hf1
  clear hb1 hf1
  rcases hvd : vldB c vs with _ | _
  · have HV := Lib.hid (metL_no hvd)
    clear hvd
    go_wp2
    go_ret
    exact ⟨none, 0, by rw [HV.out]; rfl, by rw [HV.out]; exact ⟨by simp, fun h => absurd h (by simp)⟩, HF1.out⟩
  · have HV := Lib.hid (metL_yes hvd)
    have HVD := Lib.hid hvd
    clear hvd
    have hvw := hv.below HF1.out hB
    go_wp2
    go_loopw [3, 4] (fun s3 i wr => ∃ (k : Nat) (v : Value), k ≤ vs.length ∧ s3 = v ∧ i = .int .i64 ((k : Int) - 1) ∧ Own1 wr (w.heap.size + 1) v (metK vs k) ∧ Below (w.heap.size + 1) w1 wr) (fun _ i _ => (intOf i + 1).toNat)
    case atStart => exact ⟨vs.length, .slice none 0 0, Nat.le_refl _, rfl, rfl, by rw [metK_end]; exact World.ownsRow_nil _ _ _ _, Below.refl _ _⟩
    case round =>
      obtain ⟨k, v, hk, rfl, rfl, ho, hbw⟩ := hrel
      have HO := Lib.hid ho
      clear ho
      have l1r := (hbw.cell (p := ⟨w.heap.size, 1, none⟩) (by simp)).trans l1
      have hszr := hbw.size
      rcases k with _ | j
      · rw [show ((0 : Nat) : Int) - 1 = -1 by omega]
        obtain ⟨A', c', rfl⟩ := HO.out.slice
        have hia := HO.out.ia (by have := metK_len vs 0; omega)
        have HIA := Lib.hid hia
        clear hia
        have hbe := HF1.out.trans (hbw.mono (by omega))
        have HBE := Lib.hid hbe
        clear hbe
        go_wp2
        go_ret
        exact ⟨A', c', by rw [HV.out]; rfl, by rw [HV.out]; exact HIA.out, HBE.out⟩
      · rw [show ((j + 1 : Nat) : Int) - 1 = (j : Int) by omega]
        have hlt : j < vs.length := by omega
        obtain ⟨b, off, x, y, hA, hb, hg, hc0, hc1, hd0, hd1⟩ := (hvw.below hbw (by omega)).ata (by omega) hlt
        have hG := Lib.hid hg
        have hix : Hid (-65536 ≤ x ∧ x ≤ 7) := Lib.hid (vld_idx HVD.out (x, y) (List.mem_of_getElem? hg))
        clear hg hc1 hd1
        subst hA
        by_cases hx : x < 0
        · have HX := Lib.hid (metK_yes hG.out hx)
          have hml := metK_len vs (j + 1)
          obtain ⟨q1, q2⟩ := hix.out
          have hb16 := hv.1
          go_wp2_with (at_builtin; refine wpList_append_own _ rfl _ _ 46 rfl (w.heap.size + 1) 3 i0 (.int .i64 0) 1 8 Tryz.underlying46 hi hz0 hz1 hz2 rfl (by decide) _ _ _ rfl (World.ownsRow.alloc HO.out _) ⟨wr.heap.size, 0, none⟩ 1 1 [.int .i64 (-1 - x)] rfl ?qc1 ?qc2 ?qc3 ?qc4 ?qc5 ?qc6 ?_)
          case qc1 => rfl
          case qc2 => exact int_one_new _ _ _
          case qc3 => intro u hu; simp at hu; subst hu; rfl
          case qc4 => unfold maxLen; omega
          case qc5 => omega
          case qc6 => simp; omega
          intro v' w5 hown hgrow _
          have HW := Lib.hid (And.intro hown hgrow)
          clear hown hgrow
          go_wp2
          go_roundw
          case rel => exact ⟨j, v', by omega, rfl, rfl, by unfold Own1; rw [HX.out, List.length_append, List.map_append]; exact HW.out.1, (hbw.trans ((Below.refl _ _).alloc (by omega) _)).grown HW.out.2 (by simp; omega) (fun q hq => by have := World.ownsRow.lt HO.out q hq; omega)⟩
          case measure => simp [intOf]
        · have HX := Lib.hid (metK_no hG.out hx)
          have dx : decide (x < 0) = false := by simpa using hx
          clear hx
          go_wp2
          go_roundw
          case rel => exact ⟨j, _, by omega, rfl, rfl, by rw [HX.out]; exact HO.out, hbw⟩
          case measure => simp [intOf]
end Go.Proofs.YtpkheelcfkiacaaGreatDoor
