/- Max: the maximum of two levels. -/
import Derived.Test.YtipnabbdhmapkaaGreatDoorMrg
import Derived.Test.YtipnabbdhmapkaaGreatDoorPlus
import Derived.RangeFuncBound
import Derived.RangeFuncCalls
namespace Go.Proofs.YtipnabbdhmapkaaGreatDoor
open Go.RowKit Go.Shelf
attribute [local go_sem] Oper.semAt_some

def maxOk (c1 : Int) (v1 : List (Int × Int)) (c2 : Int) (v2 : List (Int × Int)) : Bool := vldB c1 v1 && vldB c2 v2
def maxV (c1 : Int) (v1 : List (Int × Int)) (c2 : Int) (v2 : List (Int × Int)) : List (Int × Int) := if maxOk c1 v1 c2 v2 = true then mg v1 v2 else []
def maxC (c1 : Int) (v1 : List (Int × Int)) (c2 : Int) (v2 : List (Int × Int)) : Int := if maxOk c1 v1 c2 v2 = true then canonC (if c1 < c2 then c2 else c1) (mg v1 v2) else 0
def maxE (c1 : Int) (v1 : List (Int × Int)) (c2 : Int) (v2 : List (Int × Int)) : Int := if maxOk c1 v1 c2 v2 = true then 0 else 3

theorem VA.putObj {w : World} {B : Nat} {A : Option Addr} {vs : List (Int × Int)} (h : VA w B A vs) {l : Nat} {o : Obj} (hl : w.heap[l]? = some o) (ho : o.isCells = false) (o' : Obj) : VA (w.putObj l o') B A vs :=
  ⟨h.1, fun hn => by
    obtain ⟨b, off, e, hb, hc⟩ := h.2 hn
    have hg : vs[0]? = some (vs[0].1, vs[0].2) := List.getElem?_eq_getElem hn
    have hne : b ≠ l := by
      rintro rfl
      obtain ⟨o2, ho2, hcl⟩ := cells_of_cell (hc 0 _ _ hg).1
      rw [hl] at ho2
      cases ho2
      rw [ho] at hcl
      cases hcl
    exact ⟨b, off, e, hb, fun j x y hj => ⟨(World.cell?_of_block (a := ⟨b, off + j * 2, none⟩) (World.putObj_heap_other hne)).trans (hc j x y hj).1, (World.cell?_of_block (a := ⟨b, off + j * 2 + 1, none⟩) (World.putObj_heap_other hne)).trans (hc j x y hj).2⟩⟩⟩
theorem cell_two_new (W : World) (a b : Value) (t : TypeId) : ∀ j u, [a, b][j]? = some u → (W.alloc (.cells #[a, b] t)).cell? ((⟨W.heap.size, 0, none⟩ : Addr).add j) = some u := by
  intro j u hj
  rw [Addr.add_lit]
  rcases j with _ | _ | j
  · simp at hj; subst hj; go_simp
  · simp at hj; subst hj; go_simp
  · simp at hj

set_option maxRecDepth 100000 in
set_option maxHeartbeats 4000000 in
theorem max_good (c1 : Int) (A1 : Option Addr) (cap1 : Nat) (v1 : List (Int × Int)) (c2 : Int) (A2 : Option Addr) (cap2 : Nat) (v2 : List (Int × Int)) (B : Nat) (w : World) (hv1 : VA w B A1 v1) (hv2 : VA w B A2 v2) (hB : B ≤ w.heap.size)
    (h1 : vldB c1 v1 = true) (h2 : vldB c2 v2 = true) (hsum : (mg v1 v2).length * 16 ≤ 140737488355328) (m : Int) (hm : (if c1 < c2 then c2 else c1) = m) :
    Calls Tryz.prog 24 #[.agg #[.int .i64 c1, .slice A1 v1.length cap1], .agg #[.int .i64 c2, .slice A2 v2.length cap2]] w (GivesLv (canonC m (mg v1 v2)) (mg v1 v2) 0 w) := by
  have HM := Lib.hid hm
  clear hm
  have H1 := Lib.hid h1
  have H2 := Lib.hid h2
  clear h1 h2
  obtain ⟨W0, hW0⟩ : ∃ W0 : World, W0 = ((w.alloc (.cells #[.int .i64 c1, .slice A1 v1.length cap1] 24)).alloc (.cells #[.int .i64 c2, .slice A2 v2.length cap2] 24)).alloc (.cells #[.int .i64 0, .slice none 0 0] 24) := ⟨_, rfl⟩
  have hb0 : Below w.heap.size w W0 := by subst hW0; exact (((Below.refl _ _).alloc (Nat.le_refl _) _).alloc (by simp) _).alloc (by simp; omega) _
  have hs0 : W0.heap.size = w.heap.size + 3 := by subst hW0; simp
  have hv10 := hv1.below hb0 hB
  have hv20 := hv2.below hb0 hB
  have hval1 := Lib.hid (valid_any c1 A1 cap1 v1 B W0 hv10 (by omega))
  refine (callsIn_wide (n := 6)).1 ?_
  refine callsIn_of_wp_marks Tryz.func24 rfl trivial ?_ rfl
  simp only [Tryz.ntmps24, List.size_toArray, List.length_cons, List.length_nil, Nat.reduceAdd, Nat.reduceSub, Array.replicate_succ, Array.replicate_zero, List.push_toArray, List.append_toArray, List.nil_append, List.cons_append]
  gi_wp2_with fail
  rw [← hW0]
  refine ⟨trivial, ?_⟩
  refine (callsIn_wide.2 hval1.out).mono ?_
  rw [H1.out]
  rintro e w1 ⟨rfl, hb1⟩
  obtain ⟨hc1, hf1⟩ := bcell hb1
  have hv11 := hv10.below hb1 (by omega)
  have hv21 := hv20.below hb1 (by omega)
  have hs1 : W0.heap.size ≤ w1.heap.size := hb1.size
  have hval2 := Lib.hid (valid_any c2 A2 cap2 v2 B w1 hv21 (by omega))
  have hx0 : w1.cell? ⟨w.heap.size, 0, none⟩ = some (.int .i64 c1) := (hc1 _ _ (by omega)).trans (by subst hW0; go_simp)
  have hx1 : w1.cell? ⟨w.heap.size, 1, none⟩ = some (.slice A1 v1.length cap1) := (hc1 _ _ (by omega)).trans (by subst hW0; go_simp)
  have hy0 : w1.cell? ⟨w.heap.size + 1, 0, none⟩ = some (.int .i64 c2) := (hc1 _ _ (by omega)).trans (by subst hW0; go_simp)
  have hy1 : w1.cell? ⟨w.heap.size + 1, 1, none⟩ = some (.slice A2 v2.length cap2) := (hc1 _ _ (by omega)).trans (by subst hW0; go_simp)
  have hz0 : w1.cell? ⟨w.heap.size + 1 + 1, 0, none⟩ = some (.int .i64 0) := (hc1 _ _ (by omega)).trans (by subst hW0; go_simp)
  have hz1 : w1.cell? ⟨w.heap.size + 1 + 1, 1, none⟩ = some (.slice none 0 0) := (hc1 _ _ (by omega)).trans (by subst hW0; go_simp)
  have hg0 : w1.frozen? ⟨w.heap.size + 1 + 1, 0, none⟩ = false := (hf1 _ _ (by omega)).trans (by subst hW0; go_simp)
  have hg1 : w1.frozen? ⟨w.heap.size + 1 + 1, 1, none⟩ = false := (hf1 _ _ (by omega)).trans (by subst hW0; go_simp)
  clear hc1 hf1
  gi_wp2_with fail
  refine ⟨trivial, ?_⟩
  refine (callsIn_wide.2 hval2.out).mono ?_
  rw [H2.out]
  rintro e w2 ⟨rfl, hb2⟩
  obtain ⟨hc2, hf2⟩ := bcell hb2
  have hv12 := hv11.below hb2 (by omega)
  have hv22 := hv21.below hb2 (by omega)
  have hs2 : w1.heap.size ≤ w2.heap.size := hb2.size
  replace hx0 := (hc2 _ _ (by omega)).trans hx0
  replace hx1 := (hc2 _ _ (by omega)).trans hx1
  replace hy0 := (hc2 _ _ (by omega)).trans hy0
  replace hy1 := (hc2 _ _ (by omega)).trans hy1
  replace hz0 := (hc2 _ _ (by omega)).trans hz0
  replace hz1 := (hc2 _ _ (by omega)).trans hz1
  replace hg0 := (hf2 _ _ (by omega)).trans hg0
  replace hg1 := (hf2 _ _ (by omega)).trans hg1
  clear hc2 hf2
  have hx1a : ∀ o, (w2.alloc o).cell? ⟨w.heap.size, 1, none⟩ = some (.slice A1 v1.length cap1) := fun o => (World.cell?_alloc_lt w2 o _ (by show w.heap.size < w2.heap.size; omega)).trans hx1
  have hy1a : ∀ o, (w2.alloc o).cell? ⟨w.heap.size + 1, 1, none⟩ = some (.slice A2 v2.length cap2) := fun o => (World.cell?_alloc_lt w2 o _ (by show w.heap.size + 1 < w2.heap.size; omega)).trans hy1
  gi_wp2_with fail
  refine ⟨trivial, ?_⟩
  refine (merged_in _ _ _ _ A1 A2 _ cap1 _ cap2 rfl rfl).mono ?_
  rintro e w3 ⟨rfl, hw3⟩
  gi_wp2_with fail
  have bV := ((Boxed.new w2 22 (.slice none 0 0)).alloc (.cells #[.slice A1 v1.length cap1] 22)).alloc (.cells #[.slice A2 v2.length cap2] 22)
  have bA := (Boxed.new (w2.alloc (.cells #[.slice none 0 0] 22)) 22 (.slice A1 v1.length cap1)).alloc (.cells #[.slice A2 v2.length cap2] 22)
  have bB := Boxed.new ((w2.alloc (.cells #[.slice none 0 0] 22)).alloc (.cells #[.slice A1 v1.length cap1] 22)) 22 (.slice A2 v2.length cap2)
  simp only [World.size_alloc] at bV bA bB
  rw [← hw3] at bV bA bB ⊢
  have hb3 : Below w2.heap.size w2 w3 := by rw [hw3]; exact (((Below.refl _ _).alloc (Nat.le_refl _) _).alloc (by simp) _).alloc (by simp; omega) _
  have hs3 : w3.heap.size = w2.heap.size + 3 := by rw [hw3]; simp
  have hv13 := (hv12.below hb3 (by omega)).more (B' := w2.heap.size) (by omega)
  have hv23 := (hv22.below hb3 (by omega)).more (B' := w2.heap.size) (by omega)
  clear hw3 hx1a hy1a
  obtain ⟨i0, hi, hz0', hz1', hz2'⟩ := info_parts info62
  have hO : OwnFrom w3.heap.size (fun (pre : List (Int × Int)) W => (∃ v, Boxed W w2.heap.size 22 v ∧ W.ownsRow w2.heap.size 69 2 v pre.length (flat pre) ∧ True) ∧ KAB w2.heap.size (w2.heap.size + 1) (w2.heap.size + 1 + 1) w3 W) :=
    OwnFrom.and (Own.from (holdsRow_own w2.heap.size w2.heap.size 22 69 2 (fun pre => pre.length) (fun pre => flat pre) (fun _ _ => True)) _)
      (fun _ X Y row hs hg hr => hs.trans (KAB.grown hg (by have := hs.size; omega) (by have := hs.size; omega) (by have := hs.size; omega) (fun r e => by have := (hr r e).1; omega)))
  refine wpIn_rangeFunc_ownH rfl (by decide) (gf := 81) (lb := #[.pointer (some ⟨w2.heap.size + 1, 0, none⟩), .pointer (some ⟨w2.heap.size + 1 + 1, 0, none⟩)]) rfl trivial (enters_of Tryz.func81 (by kernel_rfl) rfl)
    (mg_stops 5 (by decide) (w2.heap.size + 1) (w2.heap.size + 1 + 1) w2.heap.size A1 A2 cap1 cap2 v1 v2 w3 (by omega) bA.cell bB.cell (by omega) (by omega) hv13 hv23) (fun h k => h.trans k)
    (fun W l o o' hl h _ _ => KAB.grown (grownBy_putObj' W l o') (by have := (Array.getElem?_eq_some_iff.1 h).1; omega) (by have := (Array.getElem?_eq_some_iff.1 h).1; omega) (by have := (Array.getElem?_eq_some_iff.1 h).1; omega) (fun r e => by cases e; omega)) (Below.refl _ _) (fun _ => rfl)
    (fun pre W => (∃ v, Boxed W w2.heap.size 22 v ∧ W.ownsRow w2.heap.size 69 2 v pre.length (flat pre) ∧ True) ∧ KAB w2.heap.size (w2.heap.size + 1) (w2.heap.size + 1 + 1) w3 W)
    (fun _ _ _ => False) hO (fun _ _ _ _ _ hs _ _ => hs) ⟨⟨_, bV, World.ownsRow_nil _ _ _ _, trivial⟩, KAB.refl _ _ _ _⟩
    (fun x a' W => ∃ Bx, w3.heap.size ≤ Bx ∧ W.heap[Bx]? = some (.cells #[.int .i64 x.1, .int .i64 x.2] 69 (0, 0)) ∧ a' = { tmps := #[.agg #[.int .i64 c1, .slice A1 v1.length cap1], .agg #[.int .i64 c2, .slice A2 v2.length cap2], .pointer (some ⟨w.heap.size, 0, none⟩), .pointer (some ⟨w.heap.size + 1, 0, none⟩), .pointer (some ⟨w.heap.size + 1 + 1, 0, none⟩), .int .i64 0, .pointer (some ⟨w2.heap.size, 0, none⟩), .pointer (some ⟨Bx, 0, none⟩), .agg #[.int .i64 c1, .slice A1 v1.length cap1], .bool true, .bool false, .bool false, .agg #[.int .i64 c2, .slice A2 v2.length cap2], .bool true, .bool false, .bool false, undef, .pointer (some ⟨w.heap.size, 1, none⟩), .slice A1 v1.length cap1, .pointer (some ⟨w.heap.size + 1, 1, none⟩), .slice A2 v2.length cap2, .func (.func 81) #[] #[.pointer (some ⟨w2.heap.size + 1, 0, none⟩), .pointer (some ⟨w2.heap.size + 1 + 1, 0, none⟩)], .agg #[.int .i64 x.1, .int .i64 x.2], undef, undef, undef, undef, undef, undef, undef, undef, undef, undef, undef], defers := [] })
    (fun x a' _ X Y row hs hg hr => by
      obtain ⟨Bx, hle, hc, ha⟩ := hs
      refine ⟨Bx, hle, (hg.block Bx (Array.getElem?_eq_some_iff.1 hc).1 (fun e => ?_)).trans hc, ha⟩
      obtain ⟨_, o, ho, hno⟩ := hr Bx e.symm
      rw [hc] at ho
      cases ho
      cases hno) ?assign ?body ?done ?stop
  case assign =>
    rintro l pre x W K ⟨⟨v, hv, hr, _⟩, hk⟩ hK
    have hks := hk.size
    have hka : KAB w2.heap.size (w2.heap.size + 1) (w2.heap.size + 1 + 1) W (W.alloc (.cells #[.int .i64 x.1, .int .i64 x.2] 69)) := KAB.grown (World.grownBy_alloc _ _ none) (by omega) (by omega) (by omega) (fun _ e => by cases e)
    gi_wp2
    exact hK _ _ ((KeepsOthers.alloc _ _).from _) hka ⟨⟨v, hv.alloc _, hr.alloc _, trivial⟩, hk.trans hka⟩ ⟨W.heap.size, hks, World.alloc_heap_new _ _, rfl⟩
  case body =>
    rintro l pre x a' W hl ⟨r, hlr⟩ ⟨⟨v, hv, hr, _⟩, hk⟩ ⟨Bx, hBx, hcx, rfl⟩ hlt
    have hks := hk.size
    have hc := hv.cell
    have hcx0 : W.cell? ⟨Bx, 0, none⟩ = some (.int .i64 x.1) := by simp [World.cell?, hcx]
    have hcx1 : W.cell? ⟨Bx, 1, none⟩ = some (.int .i64 x.2) := by simp [World.cell?, hcx]
    have hA' : Boxed W (w2.heap.size + 1) 22 (.slice A1 v1.length cap1) := hk.a.trans bA
    have hB' : Boxed W (w2.heap.size + 1 + 1) 22 (.slice A2 v2.length cap2) := hk.b.trans bB
    have nA := hA'.not_row (by decide) hr
    have nB := hB'.not_row (by decide) hr
    have hrl := hr.lt
    have HA := Lib.hid (And.intro nA (And.intro nB hrl))
    have HCX := Lib.hid hcx
    have HLR := Lib.hid hlr
    clear nA nB hrl hA' hB' hcx hlr
    gi_wp2_with (gi_at_builtin; refine wpListIn_append_own _ rfl _ _ 22 rfl w2.heap.size 69 i0 (.agg #[.int .i64 0, .int .i64 0]) 2 16 Tryz.underlying22 hi hz0' hz1' hz2' rfl (by decide) _ _ _ rfl (hr.alloc _) ⟨W.heap.size, 0, none⟩ 1 1 [.int .i64 x.1, .int .i64 x.2] rfl rfl ?c1 ?c2 ?c3 ?c4 ?c5 ?_)
    case c1 => exact cell_two_new _ _ _ _
    case c2 => intro u hu; simp at hu; rcases hu with rfl | rfl <;> rfl
    case c3 => unfold maxLen; omega
    case c4 => omega
    case c5 => simp; omega
    intro v' w5 hown' hgrow _
    obtain ⟨g', cap', rfl⟩ := ownsRow_succ hown'
    obtain ⟨hv1', hv2', hr2, hk2, hb2'⟩ := hv.appended (by decide) hr (by omega) (Nat.le_refl _) hown' hgrow
    have hc1 := hv1'.cell
    have hf1 := hv1'.frozen
    have hs5 : W.heap.size ≤ w5.heap.size := by have := hgrow.size; simp at this; omega
    have hkk : KAB w2.heap.size (w2.heap.size + 1) (w2.heap.size + 1 + 1) W (w5.setCell ⟨w2.heap.size, 0, none⟩ (.slice (some ⟨g', 0, none⟩) (pre.length + 1) cap')) :=
      ((KAB.grown (World.grownBy_alloc W (.cells #[.int .i64 x.1, .int .i64 x.2] 69) none) (by omega) (by omega) (by omega) (fun _ e => by cases e)).trans
        (KAB.grown hgrow (by simp; omega) (by simp; omega) (by simp; omega) (fun q e => ⟨(HA.out.2.2 q e).1, fun e' => HA.out.1 (by rw [e, e']), fun e' => HA.out.2.1 (by rw [e, e'])⟩))).trans
        (KAB.grown (grownBy_setCell' w5 w2.heap.size _) (by omega) (by omega) (by omega) (fun q e => by cases e; omega))
    have HF := Lib.hid (And.intro hv2' (And.intro hr2 hk2))
    clear hv2' hr2 hk2 hgrow hown' hb2'
    gi_wp2
    refine ⟨HF.out.2.2.from _, hkk, ⟨⟨_, HF.out.1, ?_, trivial⟩, hk.trans hkk⟩⟩
    rw [flat_append, List.length_append]
    exact HF.out.2.1
  case done =>
    rintro D ys W hD rfl ⟨⟨v, hv, hr, _⟩, hk⟩ hK
    have hbW : Below w2.heap.size w2 W := hb3.trans hk.below
    have hsW := hk.size
    obtain ⟨hcW, hfW⟩ := bcell hbW
    replace hx0 := (hcW _ _ (by omega)).trans hx0
    replace hy0 := (hcW _ _ (by omega)).trans hy0
    replace hz0 := (hcW _ _ (by omega)).trans hz0
    replace hz1 := (hcW _ _ (by omega)).trans hz1
    replace hg0 := (hfW _ _ (by omega)).trans hg0
    replace hg1 := (hfW _ _ (by omega)).trans hg1
    have hvc := hv.cell
    obtain ⟨A, cap, rfl⟩ := Own2.slice hr
    clear hcW hfW
    have hbig : (mg v1 v2).length * 16 ≤ 140737488355328 := hsum
    have hvaW : VA W W.heap.size A (mg v1 v2) := Own2.va hr hbig
    have hva := Lib.hid hvaW
    have hcan : Hid (∀ q, Calls Tryz.prog 52 #[.int .i64 q, .slice A (mg v1 v2).length cap] W fun e w' => e = .returned (.agg #[.int .i64 (canonC q (mg v1 v2)), .slice A (mg v1 v2).length cap]) ∧ Below W.heap.size W w') := Lib.hid (fun q => canonical_any q A cap (mg v1 v2) W.heap.size W hvaW (Nat.le_refl _))
    have hgo : Hid (∀ (b off : Nat), 0 < (mg v1 v2).length → A = some ⟨b, off, none⟩ → w2.heap.size ≤ b) := Lib.hid (fun b off hl e => by
      obtain ⟨g, e', hg, _⟩ := Own2.at_ hr hl
      rw [e] at e'; cases e'; exact hg)
    clear hvaW hr hv
    gi_wp2_with fail
    · obtain rfl : c2 = m := by have := HM.out; rw [if_pos (show c1 < c2 by omega)] at this; exact this
      refine ⟨trivial, ?_⟩
      refine (callsIn_wide.2 (hcan.out c2)).mono ?_
      rintro e w6 ⟨rfl, hb6⟩
      obtain ⟨hc6, hf6⟩ := bcell hb6
      replace hz0 := (hc6 _ _ (by omega)).trans hz0
      replace hz1 := (hc6 _ _ (by omega)).trans hz1
      replace hg0 := (hf6 _ _ (by omega)).trans hg0
      replace hg1 := (hf6 _ _ (by omega)).trans hg1
      have hs6 := hb6.size
      have hdl : D < W.heap.size := (Array.getElem?_eq_some_iff.1 hK).1
      have hK6 := (hb6.block D hdl).trans hK
      have hva6 := (hva.out.below hb6 (by omega)).more (B' := w6.heap.size) hs6
      clear hc6 hf6
      gi_wp2
      have hK7 : ((w6.setCell ⟨w.heap.size + 1 + 1, 0, none⟩ (.int .i64 (canonC c2 (mg v1 v2)))).setCell ⟨w.heap.size + 1 + 1, 1, none⟩ (.slice A (mg v1 v2).length cap)).heap[D]? = some (.deferred (some [])) := by
        rw [Below.heap_setCell _ _ _ D (by show D ≠ w.heap.size + 1 + 1; omega), Below.heap_setCell _ _ _ D (by show D ≠ w.heap.size + 1 + 1; omega)]
        exact hK6
      refine ⟨by simp, .inl ⟨_, _, rfl, run_takeDeferred hK7, ?_⟩⟩
      have hr0 : (((w6.setCell ⟨w.heap.size + 1 + 1, 0, none⟩ (.int .i64 (canonC c2 (mg v1 v2)))).setCell ⟨w.heap.size + 1 + 1, 1, none⟩ (.slice A (mg v1 v2).length cap)).putObj D (.deferred none)).cell? ⟨w.heap.size + 1 + 1, 0, none⟩ = some (.int .i64 (canonC c2 (mg v1 v2))) := (World.cell?_of_block (a := ⟨w.heap.size + 1 + 1, 0, none⟩) (World.putObj_heap_other (by show w.heap.size + 1 + 1 ≠ D; omega))).trans (by go_simp)
      have hr1 : (((w6.setCell ⟨w.heap.size + 1 + 1, 0, none⟩ (.int .i64 (canonC c2 (mg v1 v2)))).setCell ⟨w.heap.size + 1 + 1, 1, none⟩ (.slice A (mg v1 v2).length cap)).putObj D (.deferred none)).cell? ⟨w.heap.size + 1 + 1, 1, none⟩ = some (.slice A (mg v1 v2).length cap) := (World.cell?_of_block (a := ⟨w.heap.size + 1 + 1, 1, none⟩) (World.putObj_heap_other (by show w.heap.size + 1 + 1 ≠ D; omega))).trans (by go_simp)
      have hfin : Below w.heap.size w w6 := (((hb0.trans (hb1.mono (by omega))).trans (hb2.mono (by omega))).trans (hbW.mono (by omega))).trans (hb6.mono (by omega))
      have hvf := (hva6.setCell (p := ⟨w.heap.size + 1 + 1, 0, none⟩) (fun b off hl e => by have := hgo.out b off hl e; show b ≠ w.heap.size + 1 + 1; omega) (.int .i64 (canonC c2 (mg v1 v2)))).setCell (p := ⟨w.heap.size + 1 + 1, 1, none⟩) (fun b off hl e => by have := hgo.out b off hl e; show b ≠ w.heap.size + 1 + 1; omega) (.slice A (mg v1 v2).length cap)
      refine ⟨.tuple #[.agg #[.int .i64 (canonC c2 (mg v1 v2)), .slice A (mg v1 v2).length cap], .int .i64 0], by simp [results, Tryz.results24, go_sem, hr0, hr1], A, cap, rfl, ?_, ?_⟩
      · exact (hvf.putObj hK7 rfl _).more (by simp)
      · exact ((hfin.setCell (p := ⟨w.heap.size + 1 + 1, 0, none⟩) (by show w.heap.size ≤ w.heap.size + 1 + 1; omega) _).setCell (p := ⟨w.heap.size + 1 + 1, 1, none⟩) (by show w.heap.size ≤ w.heap.size + 1 + 1; omega) _).grown (grownBy_putObj' _ D (.deferred none)) (by simp; omega) (fun r e => by cases e; omega)
    · obtain rfl : c1 = m := by have := HM.out; rw [if_neg (show ¬ c1 < c2 by omega)] at this; exact this
      refine ⟨trivial, ?_⟩
      refine (callsIn_wide.2 (hcan.out c1)).mono ?_
      rintro e w6 ⟨rfl, hb6⟩
      obtain ⟨hc6, hf6⟩ := bcell hb6
      replace hz0 := (hc6 _ _ (by omega)).trans hz0
      replace hz1 := (hc6 _ _ (by omega)).trans hz1
      replace hg0 := (hf6 _ _ (by omega)).trans hg0
      replace hg1 := (hf6 _ _ (by omega)).trans hg1
      have hs6 := hb6.size
      have hdl : D < W.heap.size := (Array.getElem?_eq_some_iff.1 hK).1
      have hK6 := (hb6.block D hdl).trans hK
      have hva6 := (hva.out.below hb6 (by omega)).more (B' := w6.heap.size) hs6
      clear hc6 hf6
      gi_wp2
      have hK7 : ((w6.setCell ⟨w.heap.size + 1 + 1, 0, none⟩ (.int .i64 (canonC c1 (mg v1 v2)))).setCell ⟨w.heap.size + 1 + 1, 1, none⟩ (.slice A (mg v1 v2).length cap)).heap[D]? = some (.deferred (some [])) := by
        rw [Below.heap_setCell _ _ _ D (by show D ≠ w.heap.size + 1 + 1; omega), Below.heap_setCell _ _ _ D (by show D ≠ w.heap.size + 1 + 1; omega)]
        exact hK6
      refine ⟨by simp, .inl ⟨_, _, rfl, run_takeDeferred hK7, ?_⟩⟩
      have hr0 : (((w6.setCell ⟨w.heap.size + 1 + 1, 0, none⟩ (.int .i64 (canonC c1 (mg v1 v2)))).setCell ⟨w.heap.size + 1 + 1, 1, none⟩ (.slice A (mg v1 v2).length cap)).putObj D (.deferred none)).cell? ⟨w.heap.size + 1 + 1, 0, none⟩ = some (.int .i64 (canonC c1 (mg v1 v2))) := (World.cell?_of_block (a := ⟨w.heap.size + 1 + 1, 0, none⟩) (World.putObj_heap_other (by show w.heap.size + 1 + 1 ≠ D; omega))).trans (by go_simp)
      have hr1 : (((w6.setCell ⟨w.heap.size + 1 + 1, 0, none⟩ (.int .i64 (canonC c1 (mg v1 v2)))).setCell ⟨w.heap.size + 1 + 1, 1, none⟩ (.slice A (mg v1 v2).length cap)).putObj D (.deferred none)).cell? ⟨w.heap.size + 1 + 1, 1, none⟩ = some (.slice A (mg v1 v2).length cap) := (World.cell?_of_block (a := ⟨w.heap.size + 1 + 1, 1, none⟩) (World.putObj_heap_other (by show w.heap.size + 1 + 1 ≠ D; omega))).trans (by go_simp)
      have hfin : Below w.heap.size w w6 := (((hb0.trans (hb1.mono (by omega))).trans (hb2.mono (by omega))).trans (hbW.mono (by omega))).trans (hb6.mono (by omega))
      have hvf := (hva6.setCell (p := ⟨w.heap.size + 1 + 1, 0, none⟩) (fun b off hl e => by have := hgo.out b off hl e; show b ≠ w.heap.size + 1 + 1; omega) (.int .i64 (canonC c1 (mg v1 v2)))).setCell (p := ⟨w.heap.size + 1 + 1, 1, none⟩) (fun b off hl e => by have := hgo.out b off hl e; show b ≠ w.heap.size + 1 + 1; omega) (.slice A (mg v1 v2).length cap)
      refine ⟨.tuple #[.agg #[.int .i64 (canonC c1 (mg v1 v2)), .slice A (mg v1 v2).length cap], .int .i64 0], by simp [results, Tryz.results24, go_sem, hr0, hr1], A, cap, rfl, ?_, ?_⟩
      · exact (hvf.putObj hK7 rfl _).more (by simp)
      · exact ((hfin.setCell (p := ⟨w.heap.size + 1 + 1, 0, none⟩) (by show w.heap.size ≤ w.heap.size + 1 + 1; omega) _).setCell (p := ⟨w.heap.size + 1 + 1, 1, none⟩) (by show w.heap.size ≤ w.heap.size + 1 + 1; omega) _).grown (grownBy_putObj' _ D (.deferred none)) (by simp; omega) (fun r e => by cases e; omega)
  case stop =>
    rintro D c pre W _ _ h _
    exact h.elim

set_option maxRecDepth 100000 in
set_option maxHeartbeats 2000000 in
theorem max_bad (c1 : Int) (A1 : Option Addr) (cap1 : Nat) (v1 : List (Int × Int)) (c2 : Int) (A2 : Option Addr) (cap2 : Nat) (v2 : List (Int × Int)) (B : Nat) (w : World) (hv1 : VA w B A1 v1) (hv2 : VA w B A2 v2) (hB : B ≤ w.heap.size)
    (hbad : maxOk c1 v1 c2 v2 = false) :
    Calls Tryz.prog 24 #[.agg #[.int .i64 c1, .slice A1 v1.length cap1], .agg #[.int .i64 c2, .slice A2 v2.length cap2]] w (GivesLv 0 [] 3 w) := by
  obtain ⟨W0, hW0⟩ : ∃ W0 : World, W0 = ((w.alloc (.cells #[.int .i64 c1, .slice A1 v1.length cap1] 24)).alloc (.cells #[.int .i64 c2, .slice A2 v2.length cap2] 24)).alloc (.cells #[.int .i64 0, .slice none 0 0] 24) := ⟨_, rfl⟩
  have hb0 : Below w.heap.size w W0 := by subst hW0; exact (((Below.refl _ _).alloc (Nat.le_refl _) _).alloc (by simp) _).alloc (by simp; omega) _
  have hs0 : W0.heap.size = w.heap.size + 3 := by subst hW0; simp
  have hv10 := hv1.below hb0 hB
  have hv20 := hv2.below hb0 hB
  have hval1 := Lib.hid (valid_any c1 A1 cap1 v1 B W0 hv10 (by omega))
  cases h1 : vldB c1 v1 with
  | false =>
    have H1 := Lib.hid h1
    clear h1 hbad
    go_enter Tryz.func24, Tryz.ntmps24
    go_wp2_with fail
    rw [← hW0]
    refine hval1.out.mono ?_
    rw [H1.out]
    rintro e w1 ⟨rfl, hb1⟩
    obtain ⟨hc1, hf1⟩ := bcell hb1
    have hs1 := hb1.size
    have hz0 : w1.cell? ⟨w.heap.size + 1 + 1, 0, none⟩ = some (.int .i64 0) := (hc1 _ _ (by omega)).trans (by subst hW0; go_simp)
    have hz1 : w1.cell? ⟨w.heap.size + 1 + 1, 1, none⟩ = some (.slice none 0 0) := (hc1 _ _ (by omega)).trans (by subst hW0; go_simp)
    have hg0 : w1.frozen? ⟨w.heap.size + 1 + 1, 0, none⟩ = false := (hf1 _ _ (by omega)).trans (by subst hW0; go_simp)
    have hg1 : w1.frozen? ⟨w.heap.size + 1 + 1, 1, none⟩ = false := (hf1 _ _ (by omega)).trans (by subst hW0; go_simp)
    clear hc1 hf1
    go_wp2
    exact bodyPost_ret (v := .tuple #[.agg #[.int .i64 0, .slice none 0 0], .int .i64 3]) (by simp [results, Tryz.results24, go_sem, hz0, hz1]) rfl (gives_zero (((hb0.trans (hb1.mono (by omega))).setCell (p := ⟨w.heap.size + 1 + 1, 0, none⟩) (by show w.heap.size ≤ w.heap.size + 1 + 1; omega) _).setCell (p := ⟨w.heap.size + 1 + 1, 1, none⟩) (by show w.heap.size ≤ w.heap.size + 1 + 1; omega) _))
  | true =>
    have h2 : vldB c2 v2 = false := by simpa [maxOk, h1] using hbad
    have H1 := Lib.hid h1
    have H2 := Lib.hid h2
    clear h1 hbad h2
    go_enter Tryz.func24, Tryz.ntmps24
    go_wp2_with fail
    rw [← hW0]
    refine hval1.out.mono ?_
    rw [H1.out]
    rintro e w1 ⟨rfl, hb1⟩
    obtain ⟨hc1, hf1⟩ := bcell hb1
    have hs1 := hb1.size
    have hy0 : w1.cell? ⟨w.heap.size + 1, 0, none⟩ = some (.int .i64 c2) := (hc1 _ _ (by omega)).trans (by subst hW0; go_simp)
    have hy1 : w1.cell? ⟨w.heap.size + 1, 1, none⟩ = some (.slice A2 v2.length cap2) := (hc1 _ _ (by omega)).trans (by subst hW0; go_simp)
    have hz0 : w1.cell? ⟨w.heap.size + 1 + 1, 0, none⟩ = some (.int .i64 0) := (hc1 _ _ (by omega)).trans (by subst hW0; go_simp)
    have hz1 : w1.cell? ⟨w.heap.size + 1 + 1, 1, none⟩ = some (.slice none 0 0) := (hc1 _ _ (by omega)).trans (by subst hW0; go_simp)
    have hg0 : w1.frozen? ⟨w.heap.size + 1 + 1, 0, none⟩ = false := (hf1 _ _ (by omega)).trans (by subst hW0; go_simp)
    have hg1 : w1.frozen? ⟨w.heap.size + 1 + 1, 1, none⟩ = false := (hf1 _ _ (by omega)).trans (by subst hW0; go_simp)
    clear hc1 hf1
    have hval2 := Lib.hid (valid_any c2 A2 cap2 v2 B w1 (hv20.below hb1 (by omega)) (by omega))
    go_wp2_with fail
    refine hval2.out.mono ?_
    rw [H2.out]
    rintro e w2 ⟨rfl, hb2⟩
    obtain ⟨hc2, hf2⟩ := bcell hb2
    replace hz0 := (hc2 _ _ (by omega)).trans hz0
    replace hz1 := (hc2 _ _ (by omega)).trans hz1
    replace hg0 := (hf2 _ _ (by omega)).trans hg0
    replace hg1 := (hf2 _ _ (by omega)).trans hg1
    have hs2 := hb2.size
    clear hc2 hf2
    go_wp2
    exact bodyPost_ret (v := .tuple #[.agg #[.int .i64 0, .slice none 0 0], .int .i64 3]) (by simp [results, Tryz.results24, go_sem, hz0, hz1]) rfl (gives_zero ((((hb0.trans (hb1.mono (by omega))).trans (hb2.mono (by omega))).setCell (p := ⟨w.heap.size + 1 + 1, 0, none⟩) (by show w.heap.size ≤ w.heap.size + 1 + 1; omega) _).setCell (p := ⟨w.heap.size + 1 + 1, 1, none⟩) (by show w.heap.size ≤ w.heap.size + 1 + 1; omega) _))

theorem max_any (c1 : Int) (A1 : Option Addr) (cap1 : Nat) (v1 : List (Int × Int)) (c2 : Int) (A2 : Option Addr) (cap2 : Nat) (v2 : List (Int × Int)) (B : Nat) (w : World) (hv1 : VA w B A1 v1) (hv2 : VA w B A2 v2) (hB : B ≤ w.heap.size)
    (hsum : (v1.length + v2.length) * 16 ≤ 140737488355328) :
    Calls Tryz.prog 24 #[.agg #[.int .i64 c1, .slice A1 v1.length cap1], .agg #[.int .i64 c2, .slice A2 v2.length cap2]] w (GivesLv (maxC c1 v1 c2 v2) (maxV c1 v1 c2 v2) (maxE c1 v1 c2 v2) w) := by
  cases h : maxOk c1 v1 c2 v2 with
  | false =>
    rw [show maxC c1 v1 c2 v2 = 0 by simp [maxC, h], show maxV c1 v1 c2 v2 = [] by simp [maxV, h], show maxE c1 v1 c2 v2 = 3 by simp [maxE, h]]
    exact max_bad c1 A1 cap1 v1 c2 A2 cap2 v2 B w hv1 hv2 hB h
  | true =>
    have h' := h
    simp only [maxOk, Bool.and_eq_true] at h'
    rw [show maxV c1 v1 c2 v2 = mg v1 v2 by simp [maxV, h], show maxE c1 v1 c2 v2 = 0 by simp [maxE, h], show maxC c1 v1 c2 v2 = canonC (if c1 < c2 then c2 else c1) (mg v1 v2) by simp [maxC, h]]
    exact max_good c1 A1 cap1 v1 c2 A2 cap2 v2 B w hv1 hv2 hB h'.1 h'.2 (by have := mg_length v1 v2; omega) _ rfl
end Go.Proofs.YtipnabbdhmapkaaGreatDoor
