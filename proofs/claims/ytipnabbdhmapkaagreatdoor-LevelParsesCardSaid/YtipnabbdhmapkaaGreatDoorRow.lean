/- A slice of pairs that lies in memory of the call's own; slices.Clone at pairs. -/
import Derived.Test.YtipnabbdhmapkaaGreatDoorW
import Derived.Laws.OwnMore
import Derived.Deep.AppendLies
import Derived.Maps.AppendAt
import Derived.OwnWalk
namespace Go.Proofs.YtipnabbdhmapkaaGreatDoor
open Go.RowKit

/-- The cells of a list of pairs, one behind the other. -/
def flat : List (Int × Int) → List Value
  | [] => []
  | p :: r => .int .i64 p.1 :: .int .i64 p.2 :: flat r
theorem flat_length (vs : List (Int × Int)) : (flat vs).length = vs.length * 2 := by
  induction vs with
  | nil => rfl
  | cons p r ih => simp only [flat, List.length_cons, ih]; omega
theorem flat_append (a b : List (Int × Int)) : flat (a ++ b) = flat a ++ flat b := by
  induction a with
  | nil => rfl
  | cons p r ih => simp [flat, ih]
theorem flat_even (vs : List (Int × Int)) (j : Nat) : (flat vs)[j * 2]? = vs[j]?.map fun p => .int .i64 p.1 := by
  induction vs generalizing j with
  | nil => simp [flat]
  | cons p r ih =>
    cases j with
    | zero => simp [flat]
    | succ j => rw [show (j + 1) * 2 = j * 2 + 1 + 1 by omega]; simp only [flat, List.getElem?_cons_succ, ih]
theorem flat_odd (vs : List (Int × Int)) (j : Nat) : (flat vs)[j * 2 + 1]? = vs[j]?.map fun p => .int .i64 p.2 := by
  induction vs generalizing j with
  | nil => simp [flat]
  | cons p r ih =>
    cases j with
    | zero => simp [flat]
    | succ j => rw [show (j + 1) * 2 + 1 = j * 2 + 1 + 1 + 1 by omega]; simp only [flat, List.getElem?_cons_succ, ih]
theorem flat_one (vs : List (Int × Int)) : ∀ u ∈ flat vs, u.oneCell' = true := by
  induction vs with
  | nil => simp [flat]
  | cons p r ih =>
    intro u hu
    simp only [flat, List.mem_cons] at hu
    rcases hu with rfl | rfl | hu
    · rfl
    · rfl
    · exact ih u hu
theorem VA.cells {w : World} {B b off : Nat} {vs : List (Int × Int)} (h : VA w B (some ⟨b, off, none⟩) vs) : ∀ j u, (flat vs)[j]? = some u → w.cell? ⟨b, off + j, none⟩ = some u := by
  intro j u hu
  have hl : j < vs.length * 2 := by rw [← flat_length]; exact (List.getElem?_eq_some_iff.1 hu).1
  obtain ⟨b', off', e, _, hc⟩ := h.2 (by omega)
  cases e
  rcases Nat.mod_two_eq_zero_or_one j with hm | hm
  · obtain ⟨q, rfl⟩ : ∃ q, j = q * 2 := ⟨j / 2, by omega⟩
    rw [flat_even] at hu
    have hq : vs[q]? = some (vs[q]'(by omega)) := List.getElem?_eq_getElem (by omega)
    rw [hq] at hu
    simp only [Option.map_some, Option.some.injEq] at hu
    rw [← hu]
    exact (hc q _ _ hq).1
  · obtain ⟨q, rfl⟩ : ∃ q, j = q * 2 + 1 := ⟨j / 2, by omega⟩
    rw [flat_odd] at hu
    have hq : vs[q]? = some (vs[q]'(by omega)) := List.getElem?_eq_getElem (by omega)
    rw [hq] at hu
    simp only [Option.map_some, Option.some.injEq] at hu
    rw [← hu, ← Nat.add_assoc]
    exact (hc q _ _ hq).2

/-- The slice value v is memory of the call's own, from block base on, and holds vs. -/
def Own2 (w : World) (base : Nat) (v : Value) (vs : List (Int × Int)) : Prop := w.ownsRow base 69 2 v vs.length (flat vs)
theorem Own2.slice {w : World} {base : Nat} {v : Value} {vs : List (Int × Int)} (h : Own2 w base v vs) : ∃ A c, v = .slice A vs.length c := by
  rcases h.2 with ⟨rfl, h0⟩ | ⟨g, cap, cur, rfl, _⟩
  · exact ⟨none, 0, by rw [h0]⟩
  · exact ⟨_, _, rfl⟩
theorem Own2.va {w : World} {base : Nat} {A : Option Addr} {c n : Nat} {vs : List (Int × Int)} (h : Own2 w base (.slice A n c) vs) (hl : vs.length * 16 ≤ 140737488355328) : VA w w.heap.size A vs := by
  refine ⟨hl, fun hn => ?_⟩
  rcases h.2 with ⟨_, h0⟩ | ⟨g, cap, cur, hv, _, hg, _⟩
  · omega
  · injection hv with hA _ _
    subst hA
    refine ⟨g, 0, rfl, (Array.getElem?_eq_some_iff.1 hg).1, fun j x y hj => ?_⟩
    have hc := h.cells (g := g) rfl
    have he := hc (j * 2) (.int .i64 x) (by rw [flat_even, hj]; rfl)
    have ho := hc (j * 2 + 1) (.int .i64 y) (by rw [flat_odd, hj]; rfl)
    rw [Addr.add_lit] at he ho
    exact ⟨he, by simpa using ho⟩

theorem Own2.at_ {w : World} {base : Nat} {A : Option Addr} {c n : Nat} {vs : List (Int × Int)} (h : Own2 w base (.slice A n c) vs) (hl : 0 < vs.length) : ∃ g, A = some ⟨g, 0, none⟩ ∧ base ≤ g ∧ g < w.heap.size := by
  rcases h.2 with ⟨_, h0⟩ | ⟨g, cap, cur, hv, hb, hg, _⟩
  · omega
  · injection hv with hA _ _
    exact ⟨g, hA, hb, (Array.getElem?_eq_some_iff.1 hg).1⟩

theorem VA.setCell {w : World} {B : Nat} {A : Option Addr} {vs : List (Int × Int)} (h : VA w B A vs) {p : Addr} (hne : ∀ b off, 0 < vs.length → A = some ⟨b, off, none⟩ → b ≠ p.block) (u : Value) : VA (w.setCell p u) B A vs :=
  ⟨h.1, fun hn => by
    obtain ⟨b, off, e, hb, hc⟩ := h.2 hn
    have hne' := hne b off hn e
    refine ⟨b, off, e, hb, fun j x y hj => ⟨?_, ?_⟩⟩
    · exact (World.cell?_setCell_other w p _ u (fun e' => hne' (by rw [e']))).trans (hc j x y hj).1
    · exact (World.cell?_setCell_other w p _ u (fun e' => hne' (by rw [e']))).trans (hc j x y hj).2⟩

theorem VA.ata {w : World} {B : Nat} {A : Option Addr} {vs : List (Int × Int)} (h : VA w B A vs) (hB : B ≤ w.heap.size) {k : Nat} (hk : k < vs.length) : ∃ b off x y, A = some ⟨b, off, none⟩ ∧ b < B ∧ vs[k]? = some (x, y) ∧
    w.cell? ⟨b, off + k * 2, none⟩ = some (.int .i64 x) ∧ w.cell? ⟨b, off + k * 2 + 1, none⟩ = some (.int .i64 y) ∧
    (∀ o, (w.alloc o).cell? ⟨b, off + k * 2, none⟩ = some (.int .i64 x)) ∧ (∀ o, (w.alloc o).cell? ⟨b, off + k * 2 + 1, none⟩ = some (.int .i64 y)) := by
  obtain ⟨b, off, x, y, e, hb, hg, h0, h1⟩ := h.at_ hk
  exact ⟨b, off, x, y, e, hb, hg, h0, h1, fun o => (World.cell?_alloc_lt w o ⟨b, off + k * 2, none⟩ (by show b < w.heap.size; omega)).trans h0, fun o => (World.cell?_alloc_lt w o ⟨b, off + k * 2 + 1, none⟩ (by show b < w.heap.size; omega)).trans h1⟩

theorem info62 : (Tryz.prog.info? 69).map (fun i => (i.zero, i.size, i.bytes)) = some (some (.agg #[.int .i64 0, .int .i64 0]), 2, 16) := by kernel_rfl

/-- The call returns a slice of its own that holds vs. -/
def GivesOwn (vs : List (Int × Int)) (w : World) (e : Ending) (w' : World) : Prop := ∃ v, e = .returned v ∧ Own2 w' w.heap.size v vs ∧ Below w.heap.size w w'

set_option maxHeartbeats 1000000 in
set_option maxRecDepth 100000 in
theorem clone_any (A : Option Addr) (cap : Nat) (vs : List (Int × Int)) (B : Nat) (w : World) (hv : VA w B A vs) :
    Calls Tryz.prog 51 #[.slice A vs.length cap] w (GivesOwn vs w) := by
  have q22 : ∀ (w : World) (a : Option Addr) (n c n' c' : Nat), (binOp .eql 22 (.slice a n c) (.slice none n' c')).run Tryz.prog w = .ok (.bool a.isNone) w := fun w a n c n' c' => Lib.run_eql_slice_nil w _ _ a n c n' c' Tryz.underlying22
  obtain ⟨i0, hi, hz0, hz1, hz2⟩ := info_parts info62
  rcases A with _ | ad
  · have hn : vs = [] := by
      rcases vs with _ | ⟨p, r⟩
      · rfl
      · obtain ⟨b, off, e, _⟩ := hv.2 (by simp); cases e
    subst hn
    go_enter Tryz.func51, Tryz.ntmps51
    go_wp2
    go_ret
    exact ⟨_, rfl, World.ownsRow_nil _ _ _ _, Below.refl _ _⟩
  · have hcs : ∀ j u, (flat vs)[j]? = some u → w.cell? (ad.add j) = some u := by
      intro j u hu
      have hl : j < vs.length * 2 := by rw [← flat_length]; exact (List.getElem?_eq_some_iff.1 hu).1
      obtain ⟨b, off, e, _, _⟩ := hv.2 (by omega)
      cases e
      rw [Addr.add_lit]
      exact hv.cells j u hu
    have HC := Lib.hid hcs
    clear hcs
    have hlen := hv.len
    have hb16 := hv.1
    go_enter Tryz.func51, Tryz.ntmps51
    go_wp2_with (at_builtin; refine wpList_append_own _ rfl _ _ 22 rfl w.heap.size 69 i0 (.agg #[.int .i64 0, .int .i64 0]) 2 16 Tryz.underlying22 hi hz0 hz1 hz2 rfl (by decide) _ _ _ rfl (World.ownsRow_made w #[] 0 (Nat.le_refl _) (Nat.zero_le _) (by simp)) ad vs.length cap (flat vs) rfl ?qc1 ?qc2 ?qc3 ?qc4 ?qc5 ?qc6 ?_)
    case qc1 => exact flat_length vs
    case qc2 =>
      intro j u hj
      have := HC.out j u hj
      exact (World.cell?_alloc_lt w _ _ (World.block_lt_of_cell? w _ this)).trans this
    case qc3 => exact flat_one vs
    case qc4 => unfold maxLen; omega
    case qc5 => omega
    case qc6 => simp
    intro v' w1 hown hgrow hnil
    go_wp2
    go_ret
    refine ⟨v', rfl, ?_, ?_⟩
    · unfold Own2; simpa using hown
    · exact ((Below.refl _ w).alloc (Nat.le_refl _) _).grown hgrow (by simp) (by intro k hk; simp [Value.ownBlock] at hk; omega)
end Go.Proofs.YtipnabbdhmapkaaGreatDoor
