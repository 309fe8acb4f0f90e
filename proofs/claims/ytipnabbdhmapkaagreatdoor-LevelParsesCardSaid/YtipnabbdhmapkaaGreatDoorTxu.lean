/- Text: what it answers. -/
import Derived.Test.YtipnabbdhmapkaaGreatDoorTxt
import Derived.Test.YtipnabbdhmapkaaGreatDoorRnd
import Derived.Deep.DeepCutAuto
namespace Go.Proofs.YtipnabbdhmapkaaGreatDoor
open Go.RowKit

def tsC (c : Int) (vs : List (Int × Int)) : List ByteArray := if c ≠ 0 ∨ vs.length = 0 then [⟨(Lib.itoa c).toArray⟩] else []
def tsU (vs : List (Int × Int)) : List ByteArray := (vs.filter fun p => decide (0 ≤ p.1)).map fun p => varT ⟨#[117]⟩ p.1 p.2
def tsQ (vs : List (Int × Int)) : List ByteArray := (vs.filter fun p => decide (p.1 < 0)).map fun p => varT ⟨#[63]⟩ (-1 - p.1) p.2

theorem ok_low {vs : List (Int × Int)} {n : Nat} (h : OkTo vs n) : ∀ (j : Nat) (x y : Int), j < n → vs[j]? = some (x, y) → -65536 + (j : Int) ≤ x := by
  intro j
  induction j with
  | zero => intro x y hj hg; have := (h 0 x y hj hg).1; omega
  | succ j ih =>
    intro x y hj hg
    have hl : j + 1 < vs.length := (List.getElem?_eq_some_iff.1 hg).1
    rcases hp : vs[j]? with _ | ⟨x', y'⟩
    · rw [List.getElem?_eq_none_iff] at hp; omega
    · have h1 := ih x' y' (by omega) hp
      have h2 := (h (j + 1) x y hj hg).2 x' y' (by omega) (by simpa using hp)
      omega
theorem ok_len {vs : List (Int × Int)} (h : OkTo vs vs.length) : vs.length ≤ 65544 := by
  rcases hn : vs.length with _ | n
  · omega
  · rcases hg : vs[n]? with _ | ⟨x, y⟩
    · rw [List.getElem?_eq_none_iff] at hg; omega
    · have h1 := ok_low h n x y (by omega) hg
      have h2 := (h n x y (by omega) hg).1
      omega
theorem tsU_step {vs : List (Int × Int)} {k : Nat} {x y : Int} (h : vs[k]? = some (x, y)) : tsU (vs.take (k + 1)) = if 0 ≤ x then tsU (vs.take k) ++ [varT ⟨#[117]⟩ x y] else tsU (vs.take k) := by
  unfold tsU
  rw [List.take_add_one, h, Option.toList_some, List.filter_append, List.map_append]
  by_cases hx : 0 ≤ x <;> simp [hx]
theorem tsU_len (vs : List (Int × Int)) : (tsU vs).length ≤ vs.length := by
  unfold tsU
  rw [List.length_map]
  exact List.length_filter_le _ _
theorem tsC_len (c : Int) (vs : List (Int × Int)) : (tsC c vs).length ≤ 1 := by
  unfold tsC
  split <;> simp

theorem tsQ_append (a b : List (Int × Int)) : tsQ (a ++ b) = tsQ a ++ tsQ b := by
  unfold tsQ
  rw [List.filter_append, List.map_append]
theorem tsQ_len (vs : List (Int × Int)) : (tsQ vs).length ≤ vs.length := by
  unfold tsQ
  rw [List.length_map]
  exact List.length_filter_le _ _
/-- The texts of the metavariables at the places of a list. -/
def tsB (vs : List (Int × Int)) (pre : List (Fin vs.length)) : List ByteArray := tsQ (pre.map fun i => vs[i])
theorem tsB_yes {vs : List (Int × Int)} {pre : List (Fin vs.length)} {x : Fin vs.length} (h : vs[x].1 < 0) : tsB vs (pre ++ [x]) = tsB vs pre ++ [varT ⟨#[63]⟩ (-1 - vs[x].1) vs[x].2] := by
  unfold tsB
  rw [List.map_append, tsQ_append]
  congr 1
  simp only [Fin.getElem_fin] at h
  simp [tsQ, h]
theorem tsB_no {vs : List (Int × Int)} {pre : List (Fin vs.length)} {x : Fin vs.length} (h : ¬ vs[x].1 < 0) : tsB vs (pre ++ [x]) = tsB vs pre := by
  unfold tsB
  rw [List.map_append, tsQ_append]
  simp only [Fin.getElem_fin] at h
  simp [tsQ, h]
theorem tsB_end (vs : List (Int × Int)) : tsB vs (bwF vs.length vs.length (Nat.le_refl _)) = tsQ vs.reverse := by
  unfold tsB
  rw [bwF_get, List.take_length]
theorem tsB_len (vs : List (Int × Int)) (pre : List (Fin vs.length)) : (tsB vs pre).length ≤ pre.length := by
  unfold tsB
  have := tsQ_len (pre.map fun i => vs[i])
  simpa using this
/-- The texts of a level's parts. -/
def txtL (c : Int) (vs : List (Int × Int)) : List ByteArray := tsC c vs ++ tsU vs ++ tsQ vs.reverse
/-- One text alone, or the maximum of several. -/
def txtB (ts : List ByteArray) : ByteArray := match ts with
  | [t] => t
  | ts => ⟨#[109, 97, 120, 40]⟩ ++ ⟨(Lib.join (ts.map (·.data.toList)) [44, 32]).toArray⟩ ++ ⟨#[41]⟩
theorem varT_size {p : ByteArray} {n pl : Int} (hp : p.size ≤ 1) (h0 : -9223372036854775808 ≤ n) (h1 : n ≤ 9223372036854775807) (h2 : -9223372036854775808 ≤ pl) (h3 : pl ≤ 9223372036854775807) : (varT p n pl).size ≤ 46 := by
  have l1 : (Lib.itoa n).length ≤ 21 := Lib.itoa_length_le n h0 h1
  have l2 : (Lib.itoa pl).length ≤ 21 := Lib.itoa_length_le pl h2 h3
  have e1 : (⟨(Lib.itoa n).toArray⟩ : ByteArray).size = (Lib.itoa n).length := by show (Lib.itoa n).toArray.size = _; simp
  have e2 : (⟨(Lib.itoa pl).toArray⟩ : ByteArray).size = (Lib.itoa pl).length := by show (Lib.itoa pl).toArray.size = _; simp
  have e3 : (⟨#[32, 43, 32]⟩ : ByteArray).size = 3 := rfl
  unfold varT
  split
  · rw [ByteArray.size_append]
    omega
  · rw [ByteArray.size_append, ByteArray.size_append, ByteArray.size_append]
    omega
theorem txtL_size {c : Int} {vs : List (Int × Int)} (hc0 : 0 ≤ c) (hc1 : c ≤ 100) (h : OkTo vs vs.length) : ∀ t ∈ txtL c vs, t.size ≤ 46 := by
  intro t ht
  have hm : ∀ p ∈ vs, (-65536 ≤ p.1 ∧ p.1 ≤ 7) ∧ 0 ≤ p.2 ∧ p.2 ≤ 100 := fun p hp => by
    obtain ⟨j, hj, rfl⟩ := List.mem_iff_getElem.1 hp
    exact (h j _ _ hj (List.getElem?_eq_getElem hj)).1
  unfold txtL at ht
  rcases List.mem_append.1 ht with ht | ht
  · rcases List.mem_append.1 ht with ht | ht
    · unfold tsC at ht
      split at ht
      · simp only [List.mem_singleton] at ht
        subst ht
        have l1 : (Lib.itoa c).length ≤ 21 := Lib.itoa_length_le c (by omega) (by omega)
        show (Lib.itoa c).toArray.size ≤ 46
        simp
        omega
      · simp at ht
    · obtain ⟨p, hp, rfl⟩ := List.mem_map.1 ht
      have := hm p (List.mem_filter.1 hp).1
      exact varT_size (by decide) (by omega) (by omega) (by omega) (by omega)
  · obtain ⟨p, hp, rfl⟩ := List.mem_map.1 ht
    have := hm p (List.mem_reverse.1 (List.mem_filter.1 hp).1)
    exact varT_size (by decide) (by omega) (by omega) (by omega) (by omega)
theorem lens_le (ts : List ByteArray) (h : ∀ t ∈ ts, t.size ≤ 46) : Lib.lens (ts.map (·.data.toList)) ≤ 46 * ts.length := by
  induction ts with
  | nil => simp [Lib.lens]
  | cons t r ih =>
    have h1 := ih fun t ht => h t (List.mem_cons_of_mem _ ht)
    have h2 := h t List.mem_cons_self
    simp only [Lib.lens, List.map_cons, List.sum_cons, List.length_cons, Array.length_toList] at h1 ⊢
    have h3 : t.data.size ≤ 46 := h2
    omega
theorem join_le (ts : List ByteArray) (h : ∀ t ∈ ts, t.size ≤ 46) (hl : ts.length ≤ 200000) : (Lib.join (ts.map (·.data.toList)) [44, 32]).length ≤ 10000000 := by
  cases ts with
  | nil => simp [Lib.join_nil]
  | cons t r =>
    have h1 := lens_le (t :: r) h
    rw [List.map_cons, Lib.join_length]
    simp only [List.map_cons] at h1
    simp only [List.length_map, List.length_cons, List.length_nil] at hl h1 ⊢
    omega
theorem TX.ownFrom {β : Type} (B tb : Nat) (F : β → List ByteArray) : OwnFrom B (fun (s : β) W => ∃ v, TX W tb (F s) v) := by
  intro s W W' row hs hg hr
  obtain ⟨v, h⟩ := hs
  obtain ⟨v', b, o, _⟩ := (Own.from (holdsRow_own (β := β) (tb + 1) tb 90 9 1 (fun s => (F s).length) (fun s => (F s).map Value.string) (fun _ _ => True)) B) s W W' row ⟨v, h.cell, h.own, trivial⟩ hg hr
  exact ⟨v', b, o⟩
theorem TX.cells {w : World} {tb n c : Nat} {A : Option Addr} {ts : List ByteArray} (h : TX w tb ts (.slice A n c)) (h0 : 0 < ts.length) : ∃ g, A = some ⟨g, 0, none⟩ ∧ g < w.heap.size ∧ ts.length ≤ c ∧ ∀ (j : Nat) t, ts[j]? = some t → w.cell? ⟨g, 0 + j, none⟩ = some (.string t) := by
  rcases h.own.2 with ⟨_, h1⟩ | ⟨g, cap, cur, hv, _, hg, hc, _⟩
  · omega
  · injection hv with hA _ hC
    subst hA
    subst hC
    have hcs := World.ownsRow.cells h.own (g := g) rfl
    refine ⟨g, rfl, (Array.getElem?_eq_some_iff.1 hg).1, hc, fun j t hj => ?_⟩
    have := hcs j (.string t) (by rw [List.getElem?_map, hj]; rfl)
    rw [Addr.add_lit] at this
    exact this
/-- What one round of the loop that writes the metavariables leaves. -/
theorem TX.round {W w2 w5 : World} {tb Bs : Nat} (B : Nat) {ts : List ByteArray} {v val u : Value} {t : ByteArray} (h : TX W tb ts v) (hs : Boxed W Bs 22 u) (hb2 : Below W.drew.heap.size W.drew w2)
    (hg : (w2.alloc (.cells #[.string t] 9)).grownBy w5 v.ownBlock) (ho : w5.ownsRow (tb + 1) 9 1 val (ts.length + 1) (ts.map Value.string ++ [.string t])) :
    KeepsFrom B W (w5.setCell ⟨tb, 0, none⟩ val) ∧ KAB tb Bs Bs W (w5.setCell ⟨tb, 0, none⟩ val) ∧ TX (w5.setCell ⟨tb, 0, none⟩ val) tb (ts ++ [t]) val := by
  have hT2 : TX w2 tb ts v := h.drew.below hb2
  have g0 : W.grownBy w2 none := ⟨hb2.os, hb2.tape, hb2.output, hb2.size, fun i hi _ => hb2.block i hi⟩
  have hs2 : Boxed w2 Bs 22 u := (hb2.block Bs hs.lt).trans hs
  have hn2 := hs2.not_row (by decide) hT2.own
  have hl := h.lt
  have hl2 := hs.lt
  have hz2 : W.heap.size ≤ w2.heap.size := hb2.size
  have hz5 : w2.heap.size + 1 ≤ w5.heap.size := by have := hg.size; simpa using this
  have hbase : ∀ j, v.ownBlock = some j → tb + 1 ≤ j := fun j hj => (World.ownsRow.lt hT2.own j hj).1
  refine ⟨KeepsOthers.from (((KeepsOthers.of_grownBy g0 (fun j o e => by cases e)).trans (KeepsOthers.alloc _ _)).trans ((KeepsOthers.of_grownBy hg fun j o ej hj => ?_).trans (KeepsOthers.setCell _ _ _))) B, ?_, hT2.alloc _ |>.push hg ho⟩
  · rcases (hT2.alloc (.cells #[.string t] 9)).own.2 with ⟨rfl, _⟩ | ⟨g, cap, cur, rfl, _, hgb, _⟩
    · simp [Value.ownBlock] at ej
    · obtain rfl : g = j := by simpa [Value.ownBlock] using ej
      rw [hgb] at hj
      cases hj
      rfl
  · refine (((KAB.grown g0 (by omega) hl2 hl2 (fun r e => by cases e)).trans (KAB.grown (World.grownBy_alloc w2 _ none) (by omega) (by omega) (by omega) (fun r e => by cases e))).trans (KAB.grown hg (by simp; omega) (by simp; omega) (by simp; omega) (fun r e => ⟨by have := hbase r e; omega, fun e' => hn2 (by rw [e, e']), fun e' => hn2 (by rw [e, e'])⟩))).trans (KAB.grown (grownBy_setCell' w5 tb val) (by omega) (by omega) (by omega) (fun r e => by
      cases e
      refine ⟨Nat.le_refl _, fun e' => ?_, fun e' => ?_⟩ <;>
      · subst e'
        have := h.cell.symm.trans hs
        cases this))
end Go.Proofs.YtipnabbdhmapkaaGreatDoor
