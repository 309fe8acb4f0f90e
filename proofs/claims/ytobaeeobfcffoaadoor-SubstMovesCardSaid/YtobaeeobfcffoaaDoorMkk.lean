/- A slice of pairs that lies in memory of the call's own; slices.Clone at pairs. -/
import Derived.Test.YtobaeeobfcffoaaDoorW
import Derived.Laws.OwnMore
import Derived.Deep.AppendLies
import Derived.Maps.AppendAt
import Derived.OwnWalk
import Derived.Test.YtobaeeobfcffoaaDoorShf
/-! A slice of pairs that lies in memory of the call's own; slices.Clone at pairs. -/
namespace Go.Proofs.YtobaeeobfcffoaaDoor
open Go.RowKit

/-- The cells of a list of pairs, one behind the other. -/
def flat : List (Int × Int) → List Value
  | [] => []
  | p :: r => .int .i64 p.1 :: .int .i64 p.2 :: flat r
theorem flat_length (vs : List (Int × Int)) : (flat vs).length = vs.length * 2 := by
  induction vs with
  | nil => rfl
  | cons p r ih => simp only [flat, List.length_cons, ih]; omega
theorem flat_append (a b : List (Int × Int)) : flat (a ++ b) = flat a ++ flat b := by
  induction a with
  | nil => rfl
  | cons p r ih => simp [flat, ih]
theorem flat_even (vs : List (Int × Int)) (j : Nat) : (flat vs)[j * 2]? = vs[j]?.map fun p => .int .i64 p.1 := by
  induction vs generalizing j with
  | nil => simp [flat]
  | cons p r ih =>
    cases j with
    | zero => simp [flat]
    | succ j => rw [show (j + 1) * 2 = j * 2 + 1 + 1 by omega]; simp only [flat, List.getElem?_cons_succ, ih]
theorem flat_odd (vs : List (Int × Int)) (j : Nat) : (flat vs)[j * 2 + 1]? = vs[j]?.map fun p => .int .i64 p.2 := by
  induction vs generalizing j with
  | nil => simp [flat]
  | cons p r ih =>
    cases j with
    | zero => simp [flat]
    | succ j => rw [show (j + 1) * 2 + 1 = j * 2 + 1 + 1 + 1 by omega]; simp only [flat, List.getElem?_cons_succ, ih]
theorem flat_one (vs : List (Int × Int)) : ∀ u ∈ flat vs, u.oneCell' = true := by
  induction vs with
  | nil => simp [flat]
  | cons p r ih =>
    intro u hu
    simp only [flat, List.mem_cons] at hu
    rcases hu with rfl | rfl | hu
    · rfl
    · rfl
    · exact ih u hu
theorem VA.cells {w : World} {B b off : Nat} {vs : List (Int × Int)} (h : VA w B (some ⟨b, off, none⟩) vs) : ∀ j u, (flat vs)[j]? = some u → w.cell? ⟨b, off + j, none⟩ = some u := by
  intro j u hu
  have hl : j < vs.length * 2 := by rw [← flat_length]; exact (List.getElem?_eq_some_iff.1 hu).1
  obtain ⟨b', off', e, _, hc⟩ := h.2 (by omega)
  cases e
  rcases Nat.mod_two_eq_zero_or_one j with hm | hm
  · obtain ⟨q, rfl⟩ : ∃ q, j = q * 2 := ⟨j / 2, by omega⟩
    rw [flat_even] at hu
    have hq : vs[q]? = some (vs[q]'(by omega)) := List.getElem?_eq_getElem (by omega)
    rw [hq] at hu
    simp only [Option.map_some, Option.some.injEq] at hu
    rw [← hu]
    exact (hc q _ _ hq).1
  · obtain ⟨q, rfl⟩ : ∃ q, j = q * 2 + 1 := ⟨j / 2, by omega⟩
    rw [flat_odd] at hu
    have hq : vs[q]? = some (vs[q]'(by omega)) := List.getElem?_eq_getElem (by omega)
    rw [hq] at hu
    simp only [Option.map_some, Option.some.injEq] at hu
    rw [← hu, ← Nat.add_assoc]
    exact (hc q _ _ hq).2

/-- The slice value v is memory of the call's own, from block base on, and holds vs. -/
def Own2 (w : World) (base : Nat) (v : Value) (vs : List (Int × Int)) : Prop := w.ownsRow base 120 2 v vs.length (flat vs)
theorem Own2.slice {w : World} {base : Nat} {v : Value} {vs : List (Int × Int)} (h : Own2 w base v vs) : ∃ A c, v = .slice A vs.length c := by
  rcases h.2 with ⟨rfl, h0⟩ | ⟨g, cap, cur, rfl, _⟩
  · exact ⟨none, 0, by rw [h0]⟩
  · exact ⟨_, _, rfl⟩
theorem Own2.va {w : World} {base : Nat} {A : Option Addr} {c n : Nat} {vs : List (Int × Int)} (h : Own2 w base (.slice A n c) vs) (hl : vs.length * 16 ≤ 140737488355328) : VA w w.heap.size A vs := by
  refine ⟨hl, fun hn => ?_⟩
  rcases h.2 with ⟨_, h0⟩ | ⟨g, cap, cur, hv, _, hg, _⟩
  · omega
  · injection hv with hA _ _
    subst hA
    refine ⟨g, 0, rfl, (Array.getElem?_eq_some_iff.1 hg).1, fun j x y hj => ?_⟩
    have hc := h.cells (g := g) rfl
    have he := hc (j * 2) (.int .i64 x) (by rw [flat_even, hj]; rfl)
    have ho := hc (j * 2 + 1) (.int .i64 y) (by rw [flat_odd, hj]; rfl)
    rw [Addr.add_lit] at he ho
    exact ⟨he, by simpa using ho⟩

theorem Own2.at_ {w : World} {base : Nat} {A : Option Addr} {c n : Nat} {vs : List (Int × Int)} (h : Own2 w base (.slice A n c) vs) (hl : 0 < vs.length) : ∃ g, A = some ⟨g, 0, none⟩ ∧ base ≤ g ∧ g < w.heap.size := by
  rcases h.2 with ⟨_, h0⟩ | ⟨g, cap, cur, hv, hb, hg, _⟩
  · omega
  · injection hv with hA _ _
    exact ⟨g, hA, hb, (Array.getElem?_eq_some_iff.1 hg).1⟩

theorem VA.setCell {w : World} {B : Nat} {A : Option Addr} {vs : List (Int × Int)} (h : VA w B A vs) {p : Addr} (hne : ∀ b off, 0 < vs.length → A = some ⟨b, off, none⟩ → b ≠ p.block) (u : Value) : VA (w.setCell p u) B A vs :=
  ⟨h.1, fun hn => by
    obtain ⟨b, off, e, hb, hc⟩ := h.2 hn
    have hne' := hne b off hn e
    refine ⟨b, off, e, hb, fun j x y hj => ⟨?_, ?_⟩⟩
    · exact (World.cell?_setCell_other w p _ u (fun e' => hne' (by rw [e']))).trans (hc j x y hj).1
    · exact (World.cell?_setCell_other w p _ u (fun e' => hne' (by rw [e']))).trans (hc j x y hj).2⟩

theorem VA.ata {w : World} {B : Nat} {A : Option Addr} {vs : List (Int × Int)} (h : VA w B A vs) (hB : B ≤ w.heap.size) {k : Nat} (hk : k < vs.length) : ∃ b off x y, A = some ⟨b, off, none⟩ ∧ b < B ∧ vs[k]? = some (x, y) ∧
    w.cell? ⟨b, off + k * 2, none⟩ = some (.int .i64 x) ∧ w.cell? ⟨b, off + k * 2 + 1, none⟩ = some (.int .i64 y) ∧
    (∀ o, (w.alloc o).cell? ⟨b, off + k * 2, none⟩ = some (.int .i64 x)) ∧ (∀ o, (w.alloc o).cell? ⟨b, off + k * 2 + 1, none⟩ = some (.int .i64 y)) := by
  obtain ⟨b, off, x, y, e, hb, hg, h0, h1⟩ := h.at_ hk
  exact ⟨b, off, x, y, e, hb, hg, h0, h1, fun o => (World.cell?_alloc_lt w o ⟨b, off + k * 2, none⟩ (by show b < w.heap.size; omega)).trans h0, fun o => (World.cell?_alloc_lt w o ⟨b, off + k * 2 + 1, none⟩ (by show b < w.heap.size; omega)).trans h1⟩

theorem info62 : (Tryd.prog.info? 120).map (fun i => (i.zero, i.size, i.bytes)) = some (some (.agg #[.int .i64 0, .int .i64 0]), 2, 16) := by kernel_rfl

/-- The call returns a slice of its own that holds vs. -/
def GivesOwn (vs : List (Int × Int)) (w : World) (e : Ending) (w' : World) : Prop := ∃ v, e = .returned v ∧ Own2 w' w.heap.size v vs ∧ Below w.heap.size w w'

set_option maxHeartbeats 1000000 in
set_option maxRecDepth 100000 in
theorem clone_any (A : Option Addr) (cap : Nat) (vs : List (Int × Int)) (B : Nat) (w : World) (hv : VA w B A vs) :
    Calls Tryd.prog 75 #[.slice A vs.length cap] w (GivesOwn vs w) := by
  have q22 : ∀ (w : World) (a : Option Addr) (n c n' c' : Nat), (binOp .eql 93 (.slice a n c) (.slice none n' c')).run Tryd.prog w = .ok (.bool a.isNone) w := fun w a n c n' c' => Lib.run_eql_slice_nil w _ _ a n c n' c' Tryd.underlying93
  obtain ⟨i0, hi, hz0, hz1, hz2⟩ := info_parts info62
  rcases A with _ | ad
  · have hn : vs = [] := by
      rcases vs with _ | ⟨p, r⟩
      · rfl
      · obtain ⟨b, off, e, _⟩ := hv.2 (by simp); cases e
    subst hn
    go_enter Tryd.func75, Tryd.ntmps75
    go_wp2
    go_ret
    exact ⟨_, rfl, World.ownsRow_nil _ _ _ _, Below.refl _ _⟩
  · have hcs : ∀ j u, (flat vs)[j]? = some u → w.cell? (ad.add j) = some u := by
      intro j u hu
      have hl : j < vs.length * 2 := by rw [← flat_length]; exact (List.getElem?_eq_some_iff.1 hu).1
      obtain ⟨b, off, e, _, _⟩ := hv.2 (by omega)
      cases e
      rw [Addr.add_lit]
      exact hv.cells j u hu
    have HC := Lib.hid hcs
    clear hcs
    have hlen := hv.len
    have hb16 := hv.1
    go_enter Tryd.func75, Tryd.ntmps75
    go_wp2_with (at_builtin; refine wpList_append_own _ rfl _ _ 93 rfl w.heap.size 120 i0 (.agg #[.int .i64 0, .int .i64 0]) 2 16 Tryd.underlying93 hi hz0 hz1 hz2 rfl (by decide) _ _ _ rfl (World.ownsRow_made w #[] 0 (Nat.le_refl _) (Nat.zero_le _) (by simp)) ad vs.length cap (flat vs) rfl ?qc1 ?qc2 ?qc3 ?qc4 ?qc5 ?qc6 ?_)
    case qc1 => exact flat_length vs
    case qc2 =>
      intro j u hj
      have := HC.out j u hj
      exact (World.cell?_alloc_lt w _ _ (World.block_lt_of_cell? w _ this)).trans this
    case qc3 => exact flat_one vs
    case qc4 => unfold maxLen; omega
    case qc5 => omega
    case qc6 => simp
    intro v' w1 hown hgrow hnil
    go_wp2
    go_ret
    refine ⟨v', rfl, ?_, ?_⟩
    · unfold Own2; simpa using hown
    · exact ((Below.refl _ w).alloc (Nat.le_refl _) _).grown hgrow (by simp) (by intro k hk; simp [Value.ownBlock] at hk; omega)
end Go.Proofs.YtobaeeobfcffoaaDoor

/-! clone.Levels. -/
namespace Go.Proofs.YtobaeeobfcffoaaDoor
open Go.RowKit

/-- The cells of a slice of levels. -/
def LvU (w : World) (S : Nat → Prop) (ls : List (Int × List (Int × Int))) (us : List Value) : Prop :=
  us.length = ls.length * 2 ∧ (∀ u ∈ us, u.oneCell' = true) ∧ ∀ j c vs, ls[j]? = some (c, vs) → us[j * 2]? = some (.int .i64 c) ∧ ∃ A' cap, us[j * 2 + 1]? = some (.slice A' vs.length cap) ∧ VP w S A' vs
theorem LvU.nil (w : World) (S : Nat → Prop) : LvU w S [] [] := ⟨rfl, ⟨(by intro u h; cases h), (by intro j c vs h; simp at h)⟩⟩
theorem LvsP.cells {w : World} {S : Nat → Prop} {b : Nat} : ∀ (ls : List (Int × List (Int × Int))) (off : Nat), (∀ j c vs, ls[j]? = some (c, vs) → w.cell? ⟨b, off + j * 2, none⟩ = some (.int .i64 c) ∧ ∃ A' cap, w.cell? ⟨b, off + j * 2 + 1, none⟩ = some (.slice A' vs.length cap) ∧ VP w S A' vs) →
    ∃ us, LvU w S ls us ∧ ∀ j u, us[j]? = some u → w.cell? ⟨b, off + j, none⟩ = some u
  | [], off, _ => ⟨[], LvU.nil _ _, fun j u h => by simp at h⟩
  | (c, vs) :: r, off, h => by
    obtain ⟨h0, A0, cap0, h1, h2⟩ := h 0 c vs rfl
    obtain ⟨us, ⟨u0, u1, u2⟩, u3⟩ := LvsP.cells r (off + 2) (fun j c' vs' hj => by
      have := h (j + 1) c' vs' (by simpa using hj)
      rw [show off + (j + 1) * 2 = off + 2 + j * 2 by omega] at this
      exact this)
    refine ⟨.int .i64 c :: .slice A0 vs.length cap0 :: us, ⟨by simp only [List.length_cons, u0]; omega, ?_, ?_⟩, ?_⟩
    · intro u hu
      rcases List.mem_cons.1 hu with rfl | hu
      · rfl
      · rcases List.mem_cons.1 hu with rfl | hu
        · rfl
        · exact u1 u hu
    · intro j c' vs' hj
      cases j with
      | zero =>
        simp only [List.getElem?_cons_zero, Option.some.injEq, Prod.mk.injEq] at hj
        obtain ⟨rfl, rfl⟩ := hj
        exact ⟨rfl, A0, cap0, rfl, h2⟩
      | succ j =>
        have := u2 j c' vs' (by simpa using hj)
        rw [show (j + 1) * 2 = j * 2 + 1 + 1 by omega]
        simpa using this
    · intro j u hj
      match j with
      | 0 => simp at hj; subst hj; simpa using h0
      | 1 => simp at hj; subst hj; simpa using h1
      | j + 2 =>
        have := u3 j u (by simpa using hj)
        rw [show off + (j + 2) = off + 2 + j by omega]
        exact this
theorem infoLv : (Tryd.prog.info? 95).map (fun i => (i.zero, i.size, i.bytes)) = some (some (.agg #[.int .i64 0, .slice none 0 0]), 2, 32) := by kernel_rfl

set_option maxHeartbeats 1000000 in
set_option maxRecDepth 100000 in
theorem lclone_any (A : Option Addr) (cap : Nat) (ls : List (Int × List (Int × Int))) (S : Nat → Prop) (w : World) (hv : LvsP w S A ls) :
    Calls Tryd.prog 74 #[.slice A ls.length cap] w (fun e w' => ∃ v us, e = .returned v ∧ LvU w S ls us ∧ w'.ownsRow w.heap.size 95 2 v ls.length us ∧ Below w.heap.size w w') := by
  have q22 : ∀ (w : World) (a : Option Addr) (n c n' c' : Nat), (binOp .eql 22 (.slice a n c) (.slice none n' c')).run Tryd.prog w = .ok (.bool a.isNone) w := fun w a n c n' c' => Lib.run_eql_slice_nil w _ _ a n c n' c' Tryd.underlying22
  obtain ⟨i0, hi, hz0, hz1, hz2⟩ := info_parts infoLv
  rcases A with _ | ad
  · have hn : ls = [] := by
      rcases ls with _ | ⟨p, r⟩
      · rfl
      · obtain ⟨b, off, e, _⟩ := hv.2 (by simp); cases e
    subst hn
    go_enter Tryd.func74, Tryd.ntmps74
    go_wp2
    go_ret
    exact ⟨_, [], rfl, LvU.nil _ _, World.ownsRow_nil _ _ _ _, Below.refl _ _⟩
  · obtain ⟨us, hus, hcs⟩ : ∃ us, LvU w S ls us ∧ ∀ j u, us[j]? = some u → w.cell? (ad.add j) = some u := by
      by_cases hl : 0 < ls.length
      · obtain ⟨b, off, e, _, hc⟩ := hv.2 hl
        cases e
        obtain ⟨us, h1, h2⟩ := LvsP.cells (b := b) ls off hc
        exact ⟨us, h1, fun j u hj => by rw [Addr.add_lit]; exact h2 j u hj⟩
      · have : ls = [] := List.length_eq_zero_iff.1 (by omega)
        subst this
        exact ⟨[], LvU.nil _ _, fun j u h => by simp at h⟩
    have HC := Lib.hid hcs
    have HU := Lib.hid hus
    have hul := hus.1
    clear hcs hus
    have hb32 := hv.1
    go_enter Tryd.func74, Tryd.ntmps74
    go_wp2_with (at_builtin; refine wpList_append_own _ rfl _ _ 22 rfl w.heap.size 95 i0 (.agg #[.int .i64 0, .slice none 0 0]) 2 32 Tryd.underlying22 hi hz0 hz1 hz2 rfl (by decide) _ _ _ rfl (World.ownsRow_made w #[] 0 (Nat.le_refl _) (Nat.zero_le _) (by simp)) ad ls.length cap us rfl ?qc1 ?qc2 ?qc3 ?qc4 ?qc5 ?qc6 ?_)
    case qc1 => exact hul
    case qc2 =>
      intro j u hj
      have := HC.out j u hj
      exact (World.cell?_alloc_lt w _ _ (World.block_lt_of_cell? w _ this)).trans this
    case qc3 => exact HU.out.2.1
    case qc4 => unfold maxLen; omega
    case qc5 => omega
    case qc6 => simp
    intro v' w1 hown hgrow hnil
    go_wp2
    go_ret
    refine ⟨v', us, rfl, HU.out, ?_, ?_⟩
    · simpa using hown
    · exact ((Below.refl _ w).alloc (Nat.le_refl _) _).grown hgrow (by simp) (by intro k hk; simp [Value.ownBlock] at hk; omega)

/-- The state of the loop: the copy's cells in the block g, each list in another block. -/
structure LvI (w0 : World) (S : Nat → Prop) (g : Nat) (ls : List (Int × List (Int × Int))) (w : World) : Prop where
  lo : w0.heap.size ≤ g
  hi : g < w.heap.size
  below : Below w0.heap.size w0 w
  fz : ∀ j, w.frozen? ⟨g, j, none⟩ = false
  cells : ∀ j c vs, ls[j]? = some (c, vs) → w.cell? ⟨g, j * 2, none⟩ = some (.int .i64 c) ∧ ∃ A' cap, w.cell? ⟨g, j * 2 + 1, none⟩ = some (.slice A' vs.length cap) ∧ VP w (fun k => k ≠ g ∧ (w0.heap.size ≤ k ∨ S k)) A' vs
theorem VP.below {w w' : World} {S : Nat → Prop} {A : Option Addr} {vs : List (Int × Int)} (h : VP w S A vs) (hb : Below w.heap.size w w') : VP w' S A vs := by
  have h1 : VP w (fun k => S k ∧ k < w.heap.size) A vs := h.mono (fun k hk hl => ⟨hk, hl⟩)
  exact (h1.keep (fun p hp => hb.cell hp.2)).mono (fun k hk _ => hk.1)
theorem LvI.next {w0 w w' : World} {S : Nat → Prop} {g : Nat} {ls : List (Int × List (Int × Int))} (h : LvI w0 S g ls w) (hb : Below w.heap.size w w') : LvI w0 S g ls w' :=
  ⟨h.lo, Nat.lt_of_lt_of_le h.hi hb.size, h.below.trans (hb.mono h.below.size), fun j => (hb.frozen (p := ⟨g, j, none⟩) h.hi).trans (h.fz j), fun j c vs hj => by
    obtain ⟨h0, A', cap, h1, h2⟩ := h.cells j c vs hj
    exact ⟨(hb.cell (p := ⟨g, j * 2, none⟩) h.hi).trans h0, A', cap, (hb.cell (p := ⟨g, j * 2 + 1, none⟩) h.hi).trans h1, h2.below hb⟩⟩
theorem VP.of_own {w : World} {base g : Nat} {S : Nat → Prop} {A : Option Addr} {n c : Nat} {vs : List (Int × Int)} (h : Own2 w base (.slice A n c) vs) (hl : vs.length * 16 ≤ 140737488355328) (hg : g < base) (hS : ∀ k, base ≤ k → S k) : VP w (fun k => k ≠ g ∧ S k) A vs :=
  ⟨hl, fun hn => by
    obtain ⟨b, off, e, hb, hc⟩ := (h.va hl).2 hn
    obtain ⟨g', e', hg', _⟩ := h.at_ hn
    rw [e'] at e
    cases e
    exact ⟨_, _, e', ⟨by omega, hS _ hg'⟩, hc⟩⟩
theorem LvI.set {w0 w : World} {S : Nat → Prop} {g : Nat} {ls : List (Int × List (Int × Int))} (h : LvI w0 S g ls w) {j : Nat} {c : Int} {vs : List (Int × Int)} (hj : ls[j]? = some (c, vs)) {A : Option Addr} {cap : Nat} (hv : VP w (fun k => k ≠ g ∧ (w0.heap.size ≤ k ∨ S k)) A vs) : LvI w0 S g ls (w.setCell ⟨g, j * 2 + 1, none⟩ (.slice A vs.length cap)) := by
  have hk : ∀ A' vs', VP w (fun k => k ≠ g ∧ (w0.heap.size ≤ k ∨ S k)) A' vs' → VP (w.setCell ⟨g, j * 2 + 1, none⟩ (.slice A vs.length cap)) (fun k => k ≠ g ∧ (w0.heap.size ≤ k ∨ S k)) A' vs' := fun A' vs' hv' => hv'.keep fun p hp => World.cell?_setCell_other _ _ _ _ (by intro e; exact hp.1 (by rw [← e]))
  refine ⟨h.lo, by simpa [World.setCell] using h.hi, h.below.setCell h.lo _, fun i => by have := h.fz i; go_simp, fun i c' vs' hi => ?_⟩
  obtain ⟨h0, A', cap', h1, h2⟩ := h.cells i c' vs' hi
  refine ⟨set_other h0 (by omega), ?_⟩
  by_cases hij : i = j
  · subst hij
    rw [hj] at hi
    simp only [Option.some.injEq, Prod.mk.injEq] at hi
    obtain ⟨rfl, rfl⟩ := hi
    exact ⟨A, cap, set_same h1, hk _ _ hv⟩
  · exact ⟨A', cap', set_other h1 (by omega), hk _ _ h2⟩
theorem LvI.lvs {w0 w : World} {S : Nat → Prop} {g : Nat} {ls : List (Int × List (Int × Int))} (h : LvI w0 S g ls w) (hl : ls.length * 32 ≤ 140737488355328) : LvsP w (fun k => w0.heap.size ≤ k ∨ S k) (some ⟨g, 0, none⟩) ls :=
  ⟨hl, fun _ => ⟨g, 0, rfl, .inl h.lo, fun j c vs hj => by
    obtain ⟨h0, A', cap, h1, h2⟩ := h.cells j c vs hj
    exact ⟨by rw [Nat.zero_add]; exact h0, A', cap, by rw [Nat.zero_add]; exact h1, h2.mono fun k hk _ => hk.2⟩⟩⟩
theorem LvI.start {w0 w : World} {S : Nat → Prop} {g cap : Nat} {ls : List (Int × List (Int × Int))} {us : List Value} (hu : LvU w0 S ls us) (hb : Below w0.heap.size w0 w) (ho : w.ownsRow w0.heap.size 95 2 (.slice (some ⟨g, 0, none⟩) ls.length cap) ls.length us) : LvI w0 S g ls w := by
  have hlo : w0.heap.size ≤ g ∧ g < w.heap.size := by
    rcases ho.2 with ⟨h', _⟩ | ⟨g', cap', cur, h', hg0, hg, _⟩
    · simp at h'
    · simp only [Value.slice.injEq, Option.some.injEq, Addr.mk.injEq, and_true, true_and] at h'
      obtain ⟨rfl, rfl⟩ := h'
      exact ⟨hg0, (Array.getElem?_eq_some_iff.1 hg).1⟩
  refine ⟨hlo.1, hlo.2, hb, fun j => ho.frozenAt j, fun j c vs hj => ?_⟩
  obtain ⟨u0, A', cap', u1, u2⟩ := hu.2.2 j c vs hj
  have hc := ho.cells (g := g) rfl
  have e0 := hc _ _ u0
  have e1 := hc _ _ u1
  rw [Addr.add_lit] at e0 e1
  refine ⟨by simpa using e0, A', cap', by simpa using e1, ?_⟩
  have h1 : VP w0 (fun k => S k ∧ k < w0.heap.size) A' vs := u2.mono (fun k hk hl => ⟨hk, hl⟩)
  exact (h1.keep (fun p hp => hb.cell hp.2)).mono (fun k hk _ => ⟨by have := hk.2; omega, .inr hk.1⟩)

set_option maxHeartbeats 2000000 in
set_option maxRecDepth 100000 in
theorem levels_any (A : Option Addr) (cap : Nat) (ls : List (Int × List (Int × Int))) (S : Nat → Prop) (w : World) (hv : LvsP w S A ls) :
    Calls Tryd.prog 62 #[.slice A ls.length cap] w (fun e w' => ∃ A' cap', e = .returned (.slice A' ls.length cap') ∧ LvsP w' (fun k => w.heap.size ≤ k ∨ S k) A' ls ∧ Below w.heap.size w w') := by
  have hl32 := hv.1
  go_enter Tryd.func62, Tryd.ntmps62
  go_wp2_with fail
  refine (lclone_any A cap ls S _ hv).mono ?_
  rintro e w1 ⟨v, us, rfl, hus, hown, hb1⟩
  clear hv
  rcases Nat.eq_zero_or_pos ls.length with hl0 | hlp
  · obtain ⟨A1, c1, rfl⟩ : ∃ A1 c1, v = .slice A1 0 c1 := by
      rcases hown.2 with ⟨rfl, _⟩ | ⟨g, c, cur, rfl, _⟩
      · exact ⟨_, _, rfl⟩
      · exact ⟨_, _, by rw [hl0]⟩
    have HB := Lib.hid hb1
    have hln : ls = [] := List.length_eq_zero_iff.1 hl0
    subst hln
    clear hus hown hb1 hl0
    go_wp2_with fail
    go_loopw [10] (fun i wr => i = .int .i64 0 ∧ wr = w1) (fun i _ => 1 - (intOf i).toNat)
    case atStart => exact ⟨rfl, rfl⟩
    case round =>
      obtain ⟨rfl, rfl⟩ := hrel
      go_wp2
      go_ret
      exact ⟨A1, c1, rfl, ⟨by simp, fun h => by simp at h⟩, HB.out⟩
  · obtain ⟨g, c1, rfl⟩ : ∃ g c1, v = .slice (some ⟨g, 0, none⟩) ls.length c1 := by
      rcases hown.2 with ⟨_, h0⟩ | ⟨g, c, cur, rfl, _⟩
      · omega
      · exact ⟨_, _, rfl⟩
    have HI := Lib.hid (LvI.start hus hb1 hown)
    clear hus hown hb1
    go_wp2_with fail
    go_loopw [10] (fun i wr => ∃ k : Nat, k ≤ ls.length ∧ i = .int .i64 k ∧ LvI w S g ls wr) (fun i _ => ls.length - (intOf i).toNat)
    case atStart => exact ⟨0, Nat.zero_le _, rfl, HI.out⟩
    case round =>
      obtain ⟨k, hk, rfl, hx⟩ := hrel
      have HX := Lib.hid hx
      clear HI
      by_cases hlt : k < ls.length
      · obtain ⟨c, vs, hg⟩ : ∃ c vs, ls[k]? = some (c, vs) := ⟨_, _, List.getElem?_eq_getElem hlt⟩
        obtain ⟨h0, A', cap', h1, h2⟩ := hx.cells k _ _ hg
        have hgl := hx.hi
        have hz := h2.1
        have H2 := Lib.hid h2
        have HG := Lib.hid hg
        clear hx h2 hg
        have h00 : wr.cell? ⟨g, 0 + k * 2, none⟩ = some (.int .i64 c) := by rw [Nat.zero_add]; exact h0
        have h11 : wr.cell? ⟨g, 0 + k * 2 + 1, none⟩ = some (.slice A' vs.length cap') := by rw [Nat.zero_add]; exact h1
        go_wp2_with fail
        have hb2 : Below wr.heap.size wr (wr.alloc (.cells #[.int .i64 c, .slice A' vs.length cap'] 95)) := (Below.refl _ _).alloc (Nat.le_refl _) _
        refine (clone_any A' cap' vs (wr.alloc (.cells #[.int .i64 c, .slice A' vs.length cap'] 95)).heap.size _ (show VP _ _ A' vs from (H2.out.below hb2).mono fun _ _ h => h)).mono ?_
        rintro e w3 ⟨v3, rfl, ho3, hb3⟩
        obtain ⟨A3, c3, rfl⟩ := ho3.slice
        have hb4 := hb2.trans (hb3.mono (by simp))
        have HX3 := Lib.hid (HX.out.next hb4)
        have hv3 := VP.of_own (g := g) (S := fun k => w.heap.size ≤ k ∨ S k) ho3 hz (by simp; omega) (fun k hk => .inl (by have := HX.out.below.size; simp at hk; omega))
        have HS := Lib.hid (HX3.out.set HG.out (cap := c3) hv3)
        replace h0 := (hb4.cell (p := ⟨g, k * 2, none⟩) hgl).trans h0
        replace h1 := (hb4.cell (p := ⟨g, k * 2 + 1, none⟩) hgl).trans h1
        have h00 : w3.cell? ⟨g, 0 + k * 2, none⟩ = some (.int .i64 c) := by rw [Nat.zero_add]; exact h0
        have h11 : w3.cell? ⟨g, 0 + k * 2 + 1, none⟩ = some (.slice A' vs.length cap') := by rw [Nat.zero_add]; exact h1
        have f1 := HX3.out.fz (k * 2 + 1)
        have f11 := HX3.out.fz (0 + k * 2 + 1)
        clear hb2 hb3 hb4 ho3 hv3 HX3
        go_wp2_with fail
        go_roundw
        case rel => exact ⟨k + 1, hlt, by go_num, by first | exact HS.out | (rw [Nat.zero_add]; exact HS.out)⟩
        case measure => simp [intOf]; omega
      · go_wp2
        go_ret
        exact ⟨_, _, rfl, HX.out.lvs hl32, HX.out.below⟩
end Go.Proofs.YtobaeeobfcffoaaDoor

/-! make of a slice of terms. -/
namespace Go.Proofs.YtobaeeobfcffoaaDoor
open Go.RowKit
theorem infoTm : (Tryd.prog.info? 25).map (fun i => (i.zero, i.size, i.bytes)) = some (some (.agg #[.int .i64 0, .int .i64 0, .string ⟨#[]⟩, .slice none 0 0, .slice none 0 0]), 5, 80) := by kernel_rfl
theorem make_terms (n : Nat) (hn : n * 80 ≤ 140737488355328) : ∃ KO : Obj, (∀ w : World, (Instr.makeSlice 23 (.int .i64 (n : Int)) (.int .i64 (n : Int))).run Tryd.prog w = .ok (.slice (some ⟨w.heap.size, 0, none⟩) n n) (w.alloc KO)) ∧ (∀ (w : World) (j : Nat), j < n * 5 → ∃ u, (w.alloc KO).cell? ⟨w.heap.size, j, none⟩ = some u) ∧ ∀ (w : World) (j : Nat), (w.alloc KO).frozen? ⟨w.heap.size, j, none⟩ = false := by
  obtain ⟨i0, hi, hz0, hz1, hz2⟩ := info_parts infoTm
  refine ⟨.cells (madeCells (Value.agg #[.int .i64 0, .int .i64 0, .string ⟨#[]⟩, .slice none 0 0, .slice none 0 0]).cells (n * 5)) 25, fun w => ?_, fun w j hj => ?_, fun w j => ?_⟩
  · have hr := run_make (P := Tryd.prog) w 23 25 i0 _ Tryd.underlying23 hi hz0 .i64 .i64 n n (by omega) (Int.le_refl _) (by rw [hz2]; omega) (by omega)
    simp only [Int.toNat_natCast, hz1] at hr
    exact hr
  · have hs := size_madeCells (Value.agg #[.int .i64 0, .int .i64 0, .string ⟨#[]⟩, .slice none 0 0, .slice none 0 0]).cells (n * 5)
    generalize madeCells (Value.agg #[.int .i64 0, .int .i64 0, .string ⟨#[]⟩, .slice none 0 0, .slice none 0 0]).cells (n * 5) = cs at hs ⊢
    have hn := World.alloc_heap_new w (.cells cs 25)
    have hj' : j < cs.size := by omega
    refine ⟨cs[j], ?_⟩
    exact (cell_of_row _ _ j _ _ _ hn).trans (Array.getElem?_eq_getElem hj')
  · have hn := World.alloc_heap_new w (.cells (madeCells (Value.agg #[.int .i64 0, .int .i64 0, .string ⟨#[]⟩, .slice none 0 0, .slice none 0 0]).cells (n * 5)) 25)
    unfold World.frozen?
    show (match (w.alloc _).heap[w.heap.size]? with | some (.cells _ _ (lo, hi)) => decide (lo ≤ j) && decide (j < hi) | _ => false) = false
    rw [hn]
    simp
end Go.Proofs.YtobaeeobfcffoaaDoor
