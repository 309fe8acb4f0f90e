/- An accepted term in greater scopes, and in the least. -/
import Derived.Test.YtbiifkpelldciaaDoorPar
import Derived.Test.YtbiifkpelldciaaDoorOcr
namespace Go.Proofs.YtbiifkpelldciaaDoor
open Go.RowKit

theorem lvE_mono {p l p' l' c : Int} {vs : List (Int × Int)} (hp : p ≤ p') (hl : l ≤ l') (h : lvE p l c vs = 0) : lvE p' l' c vs = 0 := by
  unfold lvE at h ⊢
  by_cases h1 : vldB c vs = false
  · rw [if_pos h1] at h; exact absurd h (by decide)
  · rw [if_neg h1] at h ⊢
    by_cases h2 : p < parI c vs
    · rw [if_pos h2] at h; exact absurd h (by decide)
    · rw [if_neg h2] at h
      rw [if_neg (by omega)]
      cases hv : vs[0]? with
      | none => rfl
      | some q =>
        rw [hv] at h
        simp only at h ⊢
        by_cases h3 : l ≤ -1 - q.1
        · rw [if_pos h3] at h; exact absurd h (by decide)
        · rw [if_neg (by omega)]
theorem lvsE_mono {p l p' l' : Int} (hp : p ≤ p') (hl : l ≤ l') : ∀ {ls : List (Int × List (Int × Int))}, lvsE p l ls = 0 → lvsE p' l' ls = 0
  | [], _ => rfl
  | x :: r, h => by
    rw [lvsE] at h ⊢
    by_cases h1 : lvE p l x.1 x.2 = 0
    · rw [if_pos h1] at h
      rw [if_pos (lvE_mono hp hl h1)]
      exact lvsE_mono hp hl h
    · rw [if_neg h1] at h; exact absurd h h1
theorem endN_zero {v m k i b : Int} (h : endN v m k i b = 0) : (k = 0 → 0 ≤ i ∧ wrap64 (i - b) < v) ∧ (k = 12 → 0 ≤ i ∧ i < m) := by
  unfold endN at h
  constructor
  · rintro rfl
    by_cases h1 : ((0 : Int) == 0 && (decide (i < 0) || decide (v ≤ wrap64 (i - b)))) = true
    · rw [if_pos h1] at h; exact absurd h (by decide)
    · simp at h1
      omega
  · rintro rfl
    by_cases h1 : ((12 : Int) == 0 && (decide (i < 0) || decide (v ≤ wrap64 (i - b)))) = true
    · simp at h1
    · rw [if_neg h1] at h
      by_cases h2 : ((12 : Int) == 12 && (decide (i < 0) || decide (m ≤ i))) = true
      · rw [if_pos h2] at h; exact absurd h (by decide)
      · simp at h2
        omega
theorem endN_ok {v m k i b : Int} (h0 : k = 0 → 0 ≤ i ∧ wrap64 (i - b) < v) (h1 : k = 12 → 0 ≤ i ∧ i < m) : endN v m k i b = 0 := by
  unfold endN
  rw [if_neg (by
    simp only [Bool.and_eq_true, beq_iff_eq, Bool.or_eq_true, decide_eq_true_eq, not_and]
    intro hk
    have := h0 hk
    omega), if_neg (by
    simp only [Bool.and_eq_true, beq_iff_eq, Bool.or_eq_true, decide_eq_true_eq, not_and]
    intro hk
    have := h1 hk
    omega)]
theorem endN_24 {v m i b : Int} (h : v ≤ wrap64 (i - b)) : endN v m 0 i b = 24 := by
  unfold endN
  rw [if_pos (by simp [h])]
theorem endN_or {v m k i b : Int} (h1 : k = 12 → 0 ≤ i ∧ i < m) : endN v m k i b = 0 ∨ endN v m k i b = 24 := by
  unfold endN
  split
  · exact .inr rfl
  · rw [if_neg (by
      simp only [Bool.and_eq_true, beq_iff_eq, Bool.or_eq_true, decide_eq_true_eq, not_and]
      intro hk
      have := h1 hk
      omega)]
    exact .inl rfl
theorem chkN_then {v p m l k i b : Int} {nm : ByteArray} {ls : List (Int × List (Int × Int))} {nk : Nat} (h : chkN v p m l k i b nm ls nk = 0) :
    lvsE p l ls = 0 ∧ endN v m k i b = 0 ∧ ∀ v' p' m' l', lvsE p' l' ls = 0 → chkN v' p' m' l' k i b nm ls nk = endN v' m' k i b := by
  unfold chkN at h
  by_cases h1 : formB k i nm ls.length nk = false
  · rw [if_pos h1] at h; exact absurd h (by decide)
  rw [if_neg h1] at h
  by_cases h2 : (k == 3 && !nameB nm) = true
  · rw [if_pos h2] at h; exact absurd h (by decide)
  rw [if_neg h2] at h
  by_cases h3 : (k == 3 && decide (8 < ls.length)) = true
  · rw [if_pos h3] at h; exact absurd h (by decide)
  rw [if_neg h3] at h
  by_cases h4 : lvsE p l ls ≠ 0
  · rw [if_pos h4] at h; exact absurd h h4
  rw [if_neg h4] at h
  refine ⟨Decidable.not_not.1 h4, h, fun v' p' m' l' h5 => ?_⟩
  unfold chkN
  rw [if_neg h1, if_neg h2, if_neg h3, if_neg (fun e => e h5)]
theorem chkL_all {v p m l : Int} : ∀ {ns : List Nd}, chkL v p m l ns = 0 → ∀ n ∈ ns, chkT v p m l n = 0
  | [], _, _, h => by cases h
  | n :: r, h, q, hq => by
    rw [chkL] at h
    by_cases h1 : chkT v p m l n = 0
    · rw [if_pos h1] at h
      rcases List.mem_cons.1 hq with rfl | hq
      · exact h1
      · exact chkL_all h q hq
    · rw [if_neg h1] at h; exact absurd h h1
theorem chkL_24 {v p m l : Int} : ∀ {ns : List Nd}, (∀ n ∈ ns, chkT v p m l n = 0 ∨ chkT v p m l n = 24) → (∃ n ∈ ns, chkT v p m l n ≠ 0) → chkL v p m l ns = 24
  | [], _, ⟨_, h, _⟩ => by cases h
  | n :: r, h, ⟨q, hq, hne⟩ => by
    rw [chkL]
    by_cases h1 : chkT v p m l n = 0
    · rw [if_pos h1]
      rcases List.mem_cons.1 hq with rfl | hq
      · exact absurd h1 hne
      · exact chkL_24 (fun x hx => h x (List.mem_cons_of_mem _ hx)) ⟨q, hq, hne⟩
    · rw [if_neg h1]
      exact (h n (List.mem_cons_self ..)).resolve_left h1
mutual
theorem preT_wf : ∀ (t : Tm) (b d : Nat), WfT t → ∀ n ∈ preT t b d, WfT n.t ∧ n.b ≤ b + szT t
  | .mk k i nm ls ks, b, d, hw, n, hn => by
    rw [preT] at hn
    rcases List.mem_cons.1 hn with rfl | hn
    · exact ⟨hw, by simp only; omega⟩
    · rw [WfT] at hw
      have := preL_wf ks k b d 0 hw.2 n hn
      rw [szT]
      exact ⟨this.1, by omega⟩
theorem preL_wf : ∀ (ks : List Tm) (k : Int) (b d j : Nat), WfL ks → ∀ n ∈ preL ks k b d j, WfT n.t ∧ n.b ≤ b + 1 + szL ks
  | [], _, _, _, _, _, n, hn => by rw [preL] at hn; cases hn
  | q :: r, k, b, d, j, hw, n, hn => by
    rw [preL] at hn
    rw [WfL] at hw
    rw [szL]
    have hx : (if 0 < j ∧ j = bindK k then 1 else 0 : Nat) ≤ 1 := by split <;> omega
    rcases List.mem_append.1 hn with hn | hn
    · have := preT_wf q _ _ hw.1 n hn
      exact ⟨this.1, by omega⟩
    · have := preL_wf r k b d (j + 1) hw.2 n hn
      exact ⟨this.1, by omega⟩
end
/-- The last of a list. -/
def lastS (l : List Int) : Int := l.foldl (fun _ y => y) (-1)
theorem lastS_snoc (l : List Int) (y : Int) : lastS (l ++ [y]) = y := by unfold lastS; rw [List.foldl_append]; rfl
theorem lastS_spec {l : List Int} (h : AscI l) : (l = [] ∧ lastS l = -1) ∨ (lastS l ∈ l ∧ ∀ x ∈ l, x ≤ lastS l) := by
  rcases List.eq_nil_or_concat l with rfl | ⟨r, y, rfl⟩
  · exact .inl ⟨rfl, rfl⟩
  · rw [List.concat_eq_append] at h ⊢
    rw [lastS_snoc]
    refine .inr ⟨by simp, fun x hx => ?_⟩
    rcases List.mem_append.1 hx with hx | hx
    · have := (List.pairwise_append.1 h).2.2 x hx y (by simp)
      omega
    · rw [List.mem_singleton.1 hx]; exact Int.le_refl _
/-- What a node of an accepted term says of its index. -/
theorem node_facts {v p m l : Int} {t : Tm} (hw : WfT t) (hs : szT t ≤ 4096) (h : chkL v p m l (preT t 0 1) = 0) {n : Nd} (hn : n ∈ preT t 0 1) : ∃ k i nm ls ks, n.t = .mk k i nm ls ks ∧ (-9223372036854775808 ≤ i ∧ i ≤ 9223372036854775807) ∧ n.b ≤ 4096 ∧ chkN v p m l k i n.b nm ls ks.length = 0 := by
  have h1 := chkL_all h n hn
  have h2 := preT_wf t 0 1 hw n hn
  obtain ⟨⟨k, i, nm, ls, ks⟩, b, d⟩ := n
  rw [WfT] at h2
  exact ⟨k, i, nm, ls, ks, rfl, h2.1.1, by have := h2.2; simp only at this ⊢; omega, h1⟩
theorem hit_iff {x : Int} {n : Nd} {k i : Int} {nm : ByteArray} {ls : List (Int × List (Int × Int))} {ks : List Tm} (hn : n.t = .mk k i nm ls ks) (hi : -9223372036854775808 ≤ i ∧ i ≤ 9223372036854775807) (hb : n.b ≤ 4096) : hit x n = true ↔ k = 0 ∧ (n.b : Int) ≤ i ∧ x = i - n.b := by
  unfold hit
  rw [hn]
  simp only [Bool.and_eq_true, beq_iff_eq]
  constructor
  · rintro ⟨h1, h2⟩
    unfold freeV at h2
    rw [if_pos h1] at h2
    unfold isFree at h1
    simp only [Bool.not_eq_true', Bool.or_eq_false_iff, bne_eq_false_iff_eq, decide_eq_false_iff_not] at h1
    refine ⟨h1.1, by omega, ?_⟩
    unfold wrap64 at h2
    omega
  · rintro ⟨rfl, h2, h3⟩
    have h1 : isFree 0 i n.b = true := by
      unfold isFree
      simp only [Bool.not_eq_true', Bool.or_eq_false_iff, bne_eq_false_iff_eq, decide_eq_false_iff_not]
      exact ⟨trivial, by omega⟩
    refine ⟨h1, ?_⟩
    unfold freeV
    rw [if_pos h1]
    unfold wrap64
    omega
theorem free_in {v p m l : Int} {t : Tm} (hw : WfT t) (h : chkC v p m l t = 0) {x : Int} (hx : x ∈ freeT t) : 0 ≤ x ∧ x < v := by
  obtain ⟨h1, h2, _⟩ := chkC_parts h
  obtain ⟨n, hn, hh⟩ := mem_freeT.1 hx
  obtain ⟨k, i, nm, ls, ks, e, hi, hb, hc⟩ := node_facts hw h2 h1 hn
  obtain ⟨rfl, h3, h4⟩ := (hit_iff e hi hb).1 hh
  have h5 := ((endN_zero (chkN_then hc).2.1).1 rfl).2
  unfold wrap64 at h5
  omega
theorem chkC_greater {v p m l v' p' m' l' : Int} {t : Tm} (h : chkC v p m l t = 0) (hv : max 0 v ≤ max 0 v') (hp : max 0 p ≤ max 0 p') (hm : max 0 m ≤ max 0 m') (hl : max 0 l ≤ max 0 l') : chkC v' p' m' l' t = 0 := by
  obtain ⟨h1, h2, h3⟩ := chkC_parts h
  refine chkC_of (chkL_zero fun n hn => ?_) h2 h3
  have hc := chkL_all h1 n hn
  obtain ⟨⟨k, i, nm, ls, ks⟩, b, d⟩ := n
  unfold chkT at hc ⊢
  simp only at hc ⊢
  obtain ⟨q1, q2, q3⟩ := chkN_then hc
  rw [q3 _ _ _ _ (lvsE_mono hp hl q1)]
  have q4 := endN_zero q2
  exact endN_ok (fun hk => by have := q4.1 hk; omega) (fun hk => by have := q4.2 hk; omega)
theorem chkC_least {v p m l : Int} {t : Tm} (hw : WfT t) (h : chkC v p m l t = 0) : chkC (lastS (freeT t) + 1) p m l t = 0 := by
  obtain ⟨h1, h2, h3⟩ := chkC_parts h
  have hL := lastS_spec (freeS_asc (preT t 0 1))
  have h0 : 0 ≤ lastS (freeT t) + 1 := by
    rcases hL with ⟨_, e⟩ | ⟨e, _⟩
    · unfold freeT; omega
    · have := free_in hw h (x := lastS (freeT t)) e; omega
  refine chkC_of (chkL_zero fun n hn => ?_) h2 h3
  obtain ⟨k, i, nm, ls, ks, e, hi, hb, hc⟩ := node_facts hw h2 h1 hn
  obtain ⟨q1, q2, q3⟩ := chkN_then hc
  have q4 := endN_zero q2
  unfold chkT
  rw [e]
  simp only
  rw [q3 _ _ _ _ q1]
  refine endN_ok (fun hk => ?_) q4.2
  have h5 := q4.1 hk
  refine ⟨h5.1, ?_⟩
  by_cases hbi : (n.b : Int) ≤ i
  · have hm : i - n.b ∈ freeT t := mem_freeT.2 ⟨n, hn, (hit_iff e hi hb).2 ⟨hk, hbi, rfl⟩⟩
    rcases hL with ⟨e0, _⟩ | ⟨_, hle⟩
    · have : freeT t = [] := e0
      rw [this] at hm
      cases hm
    · have := hle _ hm
      have e2 : lastS (freeS (preT t 0 1)) = lastS (freeT t) := rfl
      unfold wrap64
      omega
  · unfold wrap64
    omega
theorem chkC_under {v p m l : Int} {t : Tm} (hw : WfT t) (h : chkC v p m l t = 0) (hn : lastS (freeT t) + 1 ≠ 0) : chkC (lastS (freeT t) + 1 - 1) p m l t = 24 := by
  obtain ⟨h1, h2, h3⟩ := chkC_parts h
  have hL : lastS (freeT t) ∈ freeT t := by
    rcases lastS_spec (freeS_asc (preT t 0 1)) with ⟨_, e⟩ | ⟨e, _⟩
    · exact absurd (show lastS (freeT t) + 1 = 0 by unfold freeT; omega) hn
    · exact e
  have h0 := free_in hw h hL
  have e0 : max 0 (lastS (freeT t) + 1 - 1) = lastS (freeT t) := by omega
  obtain ⟨n0, hn0, hh⟩ := mem_freeT.1 hL
  have hc24 : chkL (lastS (freeT t)) (max 0 p) (max 0 m) (max 0 l) (preT t 0 1) = 24 := by
    refine chkL_24 (fun n hn => ?_) ⟨n0, hn0, ?_⟩
    · obtain ⟨k, i, nm, ls, ks, e, hi, hb, hc⟩ := node_facts hw h2 h1 hn
      obtain ⟨q1, q2, q3⟩ := chkN_then hc
      unfold chkT
      rw [e]
      simp only
      rw [q3 _ _ _ _ q1]
      exact endN_or (endN_zero q2).2
    · obtain ⟨k, i, nm, ls, ks, e, hi, hb, hc⟩ := node_facts hw h2 h1 hn0
      obtain ⟨q1, q2, q3⟩ := chkN_then hc
      obtain ⟨rfl, h4, h5⟩ := (hit_iff e hi hb).1 hh
      unfold chkT
      rw [e]
      simp only
      rw [q3 _ _ _ _ q1, endN_24 (by unfold wrap64; omega)]
      decide
  unfold chkC
  rw [e0, hc24, if_pos (by decide)]
theorem last_out {t : Tm} : lastS (freeT t) + 1 ∉ freeT t := by
  intro hm
  rcases lastS_spec (freeS_asc (preT t 0 1)) with ⟨e, _⟩ | ⟨_, hle⟩
  · have : freeT t = [] := e
    rw [this] at hm
    cases hm
  · have := hle _ hm
    have e2 : lastS (freeS (preT t 0 1)) = lastS (freeT t) := rfl
    omega
end Go.Proofs.YtbiifkpelldciaaDoor
