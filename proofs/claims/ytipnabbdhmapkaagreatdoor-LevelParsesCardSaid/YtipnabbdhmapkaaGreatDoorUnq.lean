/- Pure: at most is an order on valid levels, and the maximum is the least upper bound. -/
import Derived.Test.YtipnabbdhmapkaaGreatDoorRleq
import Derived.Test.YtipnabbdhmapkaaGreatDoorMax
namespace Go.Proofs.YtipnabbdhmapkaaGreatDoor
open Go.RowKit

theorem least_iff (k : Int) : ∀ (vs : List (Int × Int)) (c : Int), k ≤ leastI c vs ↔ k ≤ c ∨ ∃ p ∈ vs, k ≤ p.2
  | [], c => by simp [leastI]
  | p :: r, c => by
    have h := least_iff k r (max c p.2)
    have e : leastI c (p :: r) = leastI (max c p.2) r := rfl
    rw [e, h]
    constructor
    · rintro (h1 | ⟨q, hq, h1⟩)
      · by_cases h2 : k ≤ c
        · exact .inl h2
        · exact .inr ⟨p, List.mem_cons_self, by omega⟩
      · exact .inr ⟨q, List.mem_cons_of_mem _ hq, h1⟩
    · rintro (h1 | ⟨q, hq, h1⟩)
      · exact .inl (by omega)
      · rcases List.mem_cons.1 hq with rfl | hq
        · exact .inl (by omega)
        · exact .inr ⟨q, hq, h1⟩
theorem leq_iff {c1 c2 : Int} {v1 v2 : List (Int × Int)} (h1 : vldB c1 v1 = true) (h2 : vldB c2 v2 = true) :
    leqB c1 v1 c2 v2 = true ↔ (c1 ≤ c2 ∨ ∃ p ∈ v2, c1 ≤ p.2) ∧ ∀ p ∈ v1, ∃ q ∈ v2, q.1 = p.1 ∧ p.2 ≤ q.2 := by
  rw [← least_iff]
  simp [leqB, h1, h2, coverB]
theorem vld_cov {c : Int} {vs : List (Int × Int)} (h : vldB c vs = true) : c = 0 ∨ ∀ p ∈ vs, p.2 < c := by
  simp only [vldB, Bool.and_eq_true, Bool.or_eq_true, decide_eq_true_eq, Bool.not_eq_true'] at h
  rcases h.2.2 with h0 | h0
  · exact .inl h0
  · refine .inr fun p hp => ?_
    rcases Int.lt_or_le p.2 c with h3 | h3
    · exact h3
    · have : covB c vs = true := List.any_eq_true.2 ⟨p, hp, by simpa using h3⟩
      rw [this] at h0
      cases h0
theorem vld_pw {c : Int} {vs : List (Int × Int)} (h : vldB c vs = true) : vs.Pairwise fun p q => p.1 < q.1 := by
  have ha := asc_of (vldB_parts h).2
  rw [List.pairwise_iff_getElem]
  intro i j hi hj hij
  exact ha i j _ _ _ _ hij (List.getElem?_eq_getElem hi) (List.getElem?_eq_getElem hj)
theorem pw_uniq {vs : List (Int × Int)} (h : vs.Pairwise fun p q => p.1 < q.1) {p q : Int × Int} (hp : p ∈ vs) (hq : q ∈ vs) (e : p.1 = q.1) : p = q := by
  induction vs with
  | nil => simp at hp
  | cons a r ih =>
    rw [List.pairwise_cons] at h
    rcases List.mem_cons.1 hp with hpa | hp1
    · rcases List.mem_cons.1 hq with hqa | hq1
      · rw [hpa, hqa]
      · have := h.1 q hq1
        rw [← hpa] at this
        omega
    · rcases List.mem_cons.1 hq with hqa | hq1
      · have := h.1 p hp1
        rw [← hqa] at this
        omega
      · exact ih h.2 hp1 hq1
theorem pw_eq : ∀ {u v : List (Int × Int)}, (u.Pairwise fun p q => p.1 < q.1) → (v.Pairwise fun p q => p.1 < q.1) → (∀ p, p ∈ u ↔ p ∈ v) → u = v
  | [], [], _, _, _ => rfl
  | [], b :: v, _, _, h => absurd ((h b).2 List.mem_cons_self) (by simp)
  | a :: u, [], _, _, h => absurd ((h a).1 List.mem_cons_self) (by simp)
  | a :: u, b :: v, hu, hv, h => by
    rw [List.pairwise_cons] at hu hv
    have hab : a = b := by
      rcases List.mem_cons.1 ((h a).1 List.mem_cons_self) with e | h1
      · exact e
      · rcases List.mem_cons.1 ((h b).2 List.mem_cons_self) with e | h2
        · exact e.symm
        · have := hu.1 b h2
          have := hv.1 a h1
          omega
    subst hab
    rw [pw_eq hu.2 hv.2 fun p => ⟨fun hp => by
      rcases List.mem_cons.1 ((h p).1 (List.mem_cons_of_mem _ hp)) with rfl | h1
      · have := hu.1 p hp
        omega
      · exact h1, fun hp => by
      rcases List.mem_cons.1 ((h p).2 (List.mem_cons_of_mem _ hp)) with rfl | h1
      · have := hv.1 p hp
        omega
      · exact h1⟩]
theorem leq_sub {c1 c2 : Int} {v1 v2 : List (Int × Int)} (h1 : vldB c1 v1 = true) (h2 : vldB c2 v2 = true) (hab : leqB c1 v1 c2 v2 = true) (hba : leqB c2 v2 c1 v1 = true) : ∀ p, p ∈ v1 → p ∈ v2 := by
  intro p hp
  obtain ⟨q, hq, e1, l1⟩ := ((leq_iff h1 h2).1 hab).2 p hp
  obtain ⟨r, hr, e2, l2⟩ := ((leq_iff h2 h1).1 hba).2 q hq
  have e3 := pw_uniq (vld_pw h1) hr hp (by omega)
  subst e3
  have : q = r := Prod.ext e1 (by omega)
  rw [← this]
  exact hq
theorem leq_anti {c1 c2 : Int} {v1 v2 : List (Int × Int)} (h1 : vldB c1 v1 = true) (h2 : vldB c2 v2 = true) : (leqB c1 v1 c2 v2 && leqB c2 v2 c1 v1) = sameB c1 v1 c2 v2 := by
  rw [Bool.eq_iff_iff]
  constructor
  · intro h
    rw [Bool.and_eq_true] at h
    obtain ⟨hab, hba⟩ := h
    have hv : v1 = v2 := pw_eq (vld_pw h1) (vld_pw h2) fun p => ⟨leq_sub h1 h2 hab hba p, leq_sub h2 h1 hba hab p⟩
    subst hv
    have hc : c1 = c2 := by
      have g1 := ((leq_iff h1 h2).1 hab).1
      have g2 := ((leq_iff h2 h1).1 hba).1
      have k1 := (vldB_parts h1).1
      have k2 := (vldB_parts h2).1
      rcases Int.lt_trichotomy c1 c2 with hlt | he | hlt
      · rcases g2 with g | ⟨p, hp, g⟩
        · omega
        · rcases vld_cov h2 with z | z
          · omega
          · have := z p hp
            omega
      · exact he
      · rcases g1 with g | ⟨p, hp, g⟩
        · omega
        · rcases vld_cov h1 with z | z
          · omega
          · have := z p hp
            omega
    simp [sameB, hc]
  · intro h
    simp only [sameB, Bool.and_eq_true, decide_eq_true_eq] at h
    obtain ⟨rfl, rfl⟩ := h
    have e : leqB c1 v1 c1 v1 = true := (leq_iff h1 h1).2 ⟨.inl (Int.le_refl _), fun p hp => ⟨p, hp, rfl, Int.le_refl _⟩⟩
    simp [e]

theorem mg_mem : ∀ (u v : List (Int × Int)) (p : Int × Int), p ∈ mg u v → p ∈ u ∨ p ∈ v
  | [], v, p, h => by rw [mg_nil] at h; exact .inr h
  | a :: u, [], p, h => by rw [mg_nil_right] at h; exact .inl h
  | a :: u, b :: v, p, h => by
    rw [mg_cons] at h
    split at h
    · rcases List.mem_cons.1 h with rfl | h
      · exact .inl List.mem_cons_self
      · exact (mg_mem u (b :: v) p h).elim (fun h => .inl (List.mem_cons_of_mem _ h)) .inr
    · split at h
      · rcases List.mem_cons.1 h with rfl | h
        · exact .inr List.mem_cons_self
        · exact (mg_mem (a :: u) v p h).elim .inl (fun h => .inr (List.mem_cons_of_mem _ h))
      · rcases List.mem_cons.1 h with rfl | h
        · split
          · exact .inr (by rw [show (a.1, b.2) = b from Prod.ext (by show a.1 = b.1; omega) rfl]; exact List.mem_cons_self)
          · exact .inl List.mem_cons_self
        · exact (mg_mem u v p h).elim (fun h => .inl (List.mem_cons_of_mem _ h)) (fun h => .inr (List.mem_cons_of_mem _ h))
termination_by u v => u.length + v.length
theorem mg_up1 : ∀ (u v : List (Int × Int)) (p : Int × Int), p ∈ u → ∃ q ∈ mg u v, q.1 = p.1 ∧ p.2 ≤ q.2
  | [], v, p, h => by simp at h
  | a :: u, [], p, h => by rw [mg_nil_right]; exact ⟨p, h, rfl, Int.le_refl _⟩
  | a :: u, b :: v, p, h => by
    rw [mg_cons]
    split
    · rcases List.mem_cons.1 h with rfl | h
      · exact ⟨p, List.mem_cons_self, rfl, Int.le_refl _⟩
      · obtain ⟨q, hq, e⟩ := mg_up1 u (b :: v) p h
        exact ⟨q, List.mem_cons_of_mem _ hq, e⟩
    · split
      · obtain ⟨q, hq, e⟩ := mg_up1 (a :: u) v p h
        exact ⟨q, List.mem_cons_of_mem _ hq, e⟩
      · rcases List.mem_cons.1 h with rfl | h
        · exact ⟨_, List.mem_cons_self, rfl, by show p.2 ≤ if p.2 < b.2 then b.2 else p.2; split <;> omega⟩
        · obtain ⟨q, hq, e⟩ := mg_up1 u v p h
          exact ⟨q, List.mem_cons_of_mem _ hq, e⟩
termination_by u v => u.length + v.length
theorem mg_up2 : ∀ (u v : List (Int × Int)) (p : Int × Int), p ∈ v → ∃ q ∈ mg u v, q.1 = p.1 ∧ p.2 ≤ q.2
  | [], v, p, h => by rw [mg_nil]; exact ⟨p, h, rfl, Int.le_refl _⟩
  | a :: u, [], p, h => by simp at h
  | a :: u, b :: v, p, h => by
    rw [mg_cons]
    split
    · obtain ⟨q, hq, e⟩ := mg_up2 u (b :: v) p h
      exact ⟨q, List.mem_cons_of_mem _ hq, e⟩
    · split
      · rcases List.mem_cons.1 h with rfl | h
        · exact ⟨p, List.mem_cons_self, rfl, Int.le_refl _⟩
        · obtain ⟨q, hq, e⟩ := mg_up2 (a :: u) v p h
          exact ⟨q, List.mem_cons_of_mem _ hq, e⟩
      · rcases List.mem_cons.1 h with rfl | h
        · exact ⟨_, List.mem_cons_self, by show a.1 = p.1; omega, by show p.2 ≤ if a.2 < p.2 then p.2 else a.2; split <;> omega⟩
        · obtain ⟨q, hq, e⟩ := mg_up2 u v p h
          exact ⟨q, List.mem_cons_of_mem _ hq, e⟩
termination_by u v => u.length + v.length
theorem mg_pw : ∀ (u v : List (Int × Int)), (u.Pairwise fun p q => p.1 < q.1) → (v.Pairwise fun p q => p.1 < q.1) → (mg u v).Pairwise fun p q => p.1 < q.1
  | [], v, _, hv => by rw [mg_nil]; exact hv
  | a :: u, [], hu, _ => by rw [mg_nil_right]; exact hu
  | a :: u, b :: v, hu, hv => by
    have hu' := List.pairwise_cons.1 hu
    have hv' := List.pairwise_cons.1 hv
    rw [mg_cons]
    split
    · rename_i hlt
      refine List.pairwise_cons.2 ⟨fun q hq => ?_, mg_pw u (b :: v) hu'.2 hv⟩
      rcases mg_mem _ _ _ hq with h | h
      · exact hu'.1 q h
      · rcases List.mem_cons.1 h with rfl | h
        · exact hlt
        · have := hv'.1 q h
          omega
    · split
      · rename_i hlt
        refine List.pairwise_cons.2 ⟨fun q hq => ?_, mg_pw (a :: u) v hu hv'.2⟩
        rcases mg_mem _ _ _ hq with h | h
        · rcases List.mem_cons.1 h with rfl | h
          · exact hlt
          · have := hu'.1 q h
            omega
        · exact hv'.1 q h
      · refine List.pairwise_cons.2 ⟨fun q hq => ?_, mg_pw u v hu'.2 hv'.2⟩
        rcases mg_mem _ _ _ hq with h | h
        · exact hu'.1 q h
        · have := hv'.1 q h
          show a.1 < q.1
          omega
termination_by u v => u.length + v.length

theorem canon_cases {m : Int} (vs : List (Int × Int)) : (canonC m vs = 0 ∧ ∃ p ∈ vs, m ≤ p.2) ∨ (canonC m vs = m ∧ ∀ p ∈ vs, p.2 < m) := by
  unfold canonC
  cases h : covB m vs with
  | true =>
    obtain ⟨p, hp, h1⟩ := List.any_eq_true.1 h
    exact .inl ⟨by simp, p, hp, by simpa using h1⟩
  | false =>
    refine .inr ⟨by simp, fun p hp => ?_⟩
    have := List.any_eq_false.1 h p hp
    simpa using this
theorem vld_of {c : Int} {vs : List (Int × Int)} (h0 : 0 ≤ c) (h1 : c ≤ 100) (hpw : vs.Pairwise fun p q => p.1 < q.1) (hin : ∀ p ∈ vs, (-65536 ≤ p.1 ∧ p.1 ≤ 7) ∧ 0 ≤ p.2 ∧ p.2 ≤ 100) (hc : c = 0 ∨ ∀ p ∈ vs, p.2 < c) : vldB c vs = true := by
  have ho : OkTo vs vs.length := fun j x y hj hg => ⟨hin (x, y) (List.mem_of_getElem? hg), fun x' y' h0 hp => by
    obtain ⟨l1, e1⟩ := List.getElem?_eq_some_iff.1 hp
    obtain ⟨l2, e2⟩ := List.getElem?_eq_some_iff.1 hg
    have := List.pairwise_iff_getElem.1 hpw (j - 1) j l1 l2 (by omega)
    rw [e1, e2] at this
    exact this⟩
  rw [vldB_end ⟨h0, h1⟩ ho]
  rcases hc with rfl | hc
  · simp
  · have : covB c vs = false := List.any_eq_false.2 fun p hp => by
      have := hc p hp
      simpa using this
    simp [this]
theorem vld_in {c : Int} {vs : List (Int × Int)} (h : vldB c vs = true) : ∀ p ∈ vs, (-65536 ≤ p.1 ∧ p.1 ≤ 7) ∧ 0 ≤ p.2 ∧ p.2 ≤ 100 := fun p hp => by
  obtain ⟨j, hj⟩ := List.getElem?_of_mem hp
  exact ((vldB_parts h).2 j p.1 p.2 (List.getElem?_eq_some_iff.1 hj).1 hj).1

/-- The maximum's constant. -/
def mxC (c1 : Int) (v1 : List (Int × Int)) (c2 : Int) (v2 : List (Int × Int)) : Int := canonC (if c1 < c2 then c2 else c1) (mg v1 v2)
section
variable {c1 c2 : Int} {v1 v2 : List (Int × Int)}
theorem max_vld (h1 : vldB c1 v1 = true) (h2 : vldB c2 v2 = true) : vldB (mxC c1 v1 c2 v2) (mg v1 v2) = true := by
  have k1 := (vldB_parts h1).1
  have k2 := (vldB_parts h2).1
  have hm : 0 ≤ (if c1 < c2 then c2 else c1) ∧ (if c1 < c2 then c2 else c1) ≤ 100 := by split <;> omega
  have hin : ∀ p ∈ mg v1 v2, (-65536 ≤ p.1 ∧ p.1 ≤ 7) ∧ 0 ≤ p.2 ∧ p.2 ≤ 100 := fun p hp => (mg_mem _ _ _ hp).elim (vld_in h1 p) (vld_in h2 p)
  unfold mxC
  rcases canon_cases (m := if c1 < c2 then c2 else c1) (mg v1 v2) with ⟨e, _⟩ | ⟨e, h⟩
  · rw [e]
    exact vld_of (by omega) (by omega) (mg_pw _ _ (vld_pw h1) (vld_pw h2)) hin (.inl rfl)
  · rw [e]
    exact vld_of hm.1 hm.2 (mg_pw _ _ (vld_pw h1) (vld_pw h2)) hin (.inr h)
theorem leq_max1 (h1 : vldB c1 v1 = true) (h2 : vldB c2 v2 = true) : leqB c1 v1 (mxC c1 v1 c2 v2) (mg v1 v2) = true := by
  refine (leq_iff h1 (max_vld h1 h2)).2 ⟨?_, mg_up1 v1 v2⟩
  unfold mxC
  rcases canon_cases (m := if c1 < c2 then c2 else c1) (mg v1 v2) with ⟨_, p, hp, h⟩ | ⟨e, _⟩
  · exact .inr ⟨p, hp, by split at h <;> omega⟩
  · exact .inl (by rw [e]; split <;> omega)
theorem leq_max2 (h1 : vldB c1 v1 = true) (h2 : vldB c2 v2 = true) : leqB c2 v2 (mxC c1 v1 c2 v2) (mg v1 v2) = true := by
  refine (leq_iff h2 (max_vld h1 h2)).2 ⟨?_, mg_up2 v1 v2⟩
  unfold mxC
  rcases canon_cases (m := if c1 < c2 then c2 else c1) (mg v1 v2) with ⟨_, p, hp, h⟩ | ⟨e, _⟩
  · exact .inr ⟨p, hp, by split at h <;> omega⟩
  · exact .inl (by rw [e]; split <;> omega)
theorem max_leq {c3 : Int} {v3 : List (Int × Int)} (h1 : vldB c1 v1 = true) (h2 : vldB c2 v2 = true) (h3 : vldB c3 v3 = true) :
    leqB (mxC c1 v1 c2 v2) (mg v1 v2) c3 v3 = (leqB c1 v1 c3 v3 && leqB c2 v2 c3 v3) := by
  have hv := max_vld h1 h2
  have k1 := (vldB_parts h1).1
  have k2 := (vldB_parts h2).1
  rw [Bool.eq_iff_iff, Bool.and_eq_true, leq_iff hv h3, leq_iff h1 h3, leq_iff h2 h3]
  unfold mxC
  have hc := canon_cases (m := if c1 < c2 then c2 else c1) (mg v1 v2)
  constructor
  · rintro ⟨g, hq⟩
    have hg : (if c1 < c2 then c2 else c1) ≤ c3 ∨ ∃ p ∈ v3, (if c1 < c2 then c2 else c1) ≤ p.2 := by
      rcases hc with ⟨_, p, hp, h⟩ | ⟨e, _⟩
      · obtain ⟨q, hq3, _, l⟩ := hq p hp
        exact .inr ⟨q, hq3, by omega⟩
      · rw [e] at g
        exact g
    refine ⟨⟨?_, fun p hp => ?_⟩, ⟨?_, fun p hp => ?_⟩⟩
    · rcases hg with h | ⟨p, hp, h⟩
      · exact .inl (by split at h <;> omega)
      · exact .inr ⟨p, hp, by split at h <;> omega⟩
    · obtain ⟨q, hq1, e1, l1⟩ := mg_up1 v1 v2 p hp
      obtain ⟨r, hr, e2, l2⟩ := hq q hq1
      exact ⟨r, hr, by omega, by omega⟩
    · rcases hg with h | ⟨p, hp, h⟩
      · exact .inl (by split at h <;> omega)
      · exact .inr ⟨p, hp, by split at h <;> omega⟩
    · obtain ⟨q, hq1, e1, l1⟩ := mg_up2 v1 v2 p hp
      obtain ⟨r, hr, e2, l2⟩ := hq q hq1
      exact ⟨r, hr, by omega, by omega⟩
  · rintro ⟨⟨g1, q1⟩, ⟨g2, q2⟩⟩
    refine ⟨?_, fun p hp => (mg_mem _ _ _ hp).elim (q1 p) (q2 p)⟩
    have hle : canonC (if c1 < c2 then c2 else c1) (mg v1 v2) ≤ (if c1 < c2 then c2 else c1) := by
      rcases hc with ⟨e, _⟩ | ⟨e, _⟩
      · rw [e]; split <;> omega
      · rw [e]; exact Int.le_refl _
    by_cases hlt : c1 < c2
    · rw [if_pos hlt] at hle ⊢
      rcases g2 with g | ⟨p, hp, g⟩
      · exact .inl (by omega)
      · exact .inr ⟨p, hp, by omega⟩
    · rw [if_neg hlt] at hle ⊢
      rcases g1 with g | ⟨p, hp, g⟩
      · exact .inl (by omega)
      · exact .inr ⟨p, hp, by omega⟩
end
end Go.Proofs.YtipnabbdhmapkaaGreatDoor
