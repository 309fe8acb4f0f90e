/- The values of sums, maxima and replaced levels: plain mathematics. -/
import Derived.Test.YtipnabbdhmapkaaGreatDoorBlp
import Derived.Test.YtipnabbdhmapkaaGreatDoorSub
namespace Go.Proofs.YtipnabbdhmapkaaGreatDoor
open Go.RowKit

def InP (ps : List Int) (vs : List (Int × Int)) : Prop := ∀ p ∈ vs, 0 ≤ p.1 ∧ p.1 < ps.length
/-- The value of a variable. -/
def vv (ps : List Int) (p : Int × Int) : Int := ps.getD p.1.toNat 0 + p.2
theorem int_ext {a b : Int} (h : ∀ k : Int, k ≤ a ↔ k ≤ b) : a = b := Int.le_antisymm ((h a).1 (Int.le_refl a)) ((h b).2 (Int.le_refl b))
theorem evL_iff {ps : List Int} {vs : List (Int × Int)} (h : InP ps vs) (k n : Int) : k ≤ evL ps vs n ↔ k ≤ n ∨ ∃ p ∈ vs, k ≤ vv ps p := le_evL k h
theorem evL_canon {ps : List Int} {vs : List (Int × Int)} {c : Int} (hp : ∀ i, 0 ≤ ps.getD i 0) (h : InP ps vs) (hc : 0 ≤ c) : evL ps vs (canonC c vs) = evL ps vs c := by
  rcases canon_cases (m := c) vs with ⟨e, p, hm, hle⟩ | ⟨e, _⟩
  · rw [e]
    refine int_ext fun k => ?_
    rw [evL_iff h, evL_iff h]
    constructor
    · rintro (h1 | h1)
      · exact .inl (by omega)
      · exact .inr h1
    · rintro (h1 | h1)
      · exact .inr ⟨p, hm, by have := hp p.1.toNat; unfold vv; omega⟩
      · exact .inr h1
  · rw [e]
theorem inP_mg {ps : List Int} {u v : List (Int × Int)} (hu : InP ps u) (hv : InP ps v) : InP ps (mg u v) := fun p hp => (mg_mem _ _ _ hp).elim (hu p) (hv p)
theorem evL_mg {ps : List Int} {u v : List (Int × Int)} (hu : InP ps u) (hv : InP ps v) (k n : Int) : k ≤ evL ps (mg u v) n ↔ k ≤ n ∨ (∃ p ∈ u, k ≤ vv ps p) ∨ ∃ p ∈ v, k ≤ vv ps p := by
  rw [evL_iff (inP_mg hu hv)]
  constructor
  · rintro (h | ⟨p, hp, h⟩)
    · exact .inl h
    · rcases mg_mem _ _ _ hp with h1 | h1
      · exact .inr (.inl ⟨p, h1, h⟩)
      · exact .inr (.inr ⟨p, h1, h⟩)
  · rintro (h | ⟨p, hp, h⟩ | ⟨p, hp, h⟩)
    · exact .inl h
    · obtain ⟨q, hq, e, hle⟩ := mg_up1 u v p hp
      exact .inr ⟨q, hq, by unfold vv at h ⊢; rw [e]; omega⟩
    · obtain ⟨q, hq, e, hle⟩ := mg_up2 u v p hp
      exact .inr ⟨q, hq, by unfold vv at h ⊢; rw [e]; omega⟩
/-- A good level for these parameters. -/
structure Gd (ps : List Int) (c : Int) (vs : List (Int × Int)) : Prop where
  vld : vldB c vs = true
  inp : InP ps vs
theorem gd_of {ps : List Int} {c : Int} {vs : List (Int × Int)} (h : 0 ≤ valB ps c vs) : Gd ps c vs := ⟨(valB_vld h).1, (valB_vld h).2⟩
theorem Gd.val {ps : List Int} {c : Int} {vs : List (Int × Int)} (h : Gd ps c vs) : valB ps c vs = evL ps vs c := by simp [valB, h.vld]
theorem max_val {ps : List Int} (hp : ∀ i, 0 ≤ ps.getD i 0) {c1 c2 : Int} {v1 v2 : List (Int × Int)} (h1 : Gd ps c1 v1) (h2 : Gd ps c2 v2) :
    Gd ps (maxC c1 v1 c2 v2) (maxV c1 v1 c2 v2) ∧ maxE c1 v1 c2 v2 = 0 ∧ valB ps (maxC c1 v1 c2 v2) (maxV c1 v1 c2 v2) = max (valB ps c1 v1) (valB ps c2 v2) := by
  have ho : maxOk c1 v1 c2 v2 = true := by simp [maxOk, h1.vld, h2.vld]
  have hv := max_vld h1.vld h2.vld
  have eC : maxC c1 v1 c2 v2 = mxC c1 v1 c2 v2 := by simp [maxC, ho, mxC]
  have eV : maxV c1 v1 c2 v2 = mg v1 v2 := by simp [maxV, ho]
  rw [eC, eV]
  have hg : Gd ps (mxC c1 v1 c2 v2) (mg v1 v2) := ⟨hv, inP_mg h1.inp h2.inp⟩
  refine ⟨hg, by simp [maxE, ho], ?_⟩
  rw [hg.val, h1.val, h2.val]
  have k1 := (vldB_parts h1.vld).1
  have k2 := (vldB_parts h2.vld).1
  unfold mxC
  rw [evL_canon hp hg.inp (by split <;> omega)]
  refine int_ext fun k => ?_
  rw [evL_mg h1.inp h2.inp]
  have e1 := evL_iff h1.inp k c1
  have e2 := evL_iff h2.inp k c2
  have hm : k ≤ max (evL ps v1 c1) (evL ps v2 c2) ↔ k ≤ evL ps v1 c1 ∨ k ≤ evL ps v2 c2 := by omega
  rw [hm, e1, e2]
  constructor
  · rintro (h | h | h)
    · split at h
      · exact .inr (.inl h)
      · exact .inl (.inl h)
    · exact .inl (.inr h)
    · exact .inr (.inr h)
  · rintro ((h | h) | (h | h))
    · exact .inl (by split <;> omega)
    · exact .inr (.inl h)
    · exact .inl (by split <;> omega)
    · exact .inr (.inr h)
theorem plus_err {c : Int} {vs : List (Int × Int)} (n : Int) (hv : vldB c vs = true) (h0 : 0 ≤ n) : plusE c vs n = 0 ∨ plusE c vs n = 15 := by
  simp only [plusE, hv, if_true, h0]
  split
  · exact .inl rfl
  · exact .inr rfl
theorem plus_ok {c : Int} {vs : List (Int × Int)} {n : Int} (hv : vldB c vs = true) (h0 : 0 ≤ n) (he : plusE c vs n = 0) : n ≤ 100 - leastI c vs ∧ plusC c vs n = canonC (c + n) (plusVs n vs) ∧ plusV c vs n = plusVs n vs := by
  have h : n ≤ 100 - leastI c vs := by
    simp only [plusE, hv, if_true, h0] at he
    split at he
    · assumption
    · cases he
  have ho : plusOk c vs n = true := by simp [plusOk, hv, h0, h]
  exact ⟨h, by simp [plusC, ho], by simp [plusV, ho]⟩
theorem plus_val {ps : List Int} (hp : ∀ i, 0 ≤ ps.getD i 0) {c : Int} {vs : List (Int × Int)} {n : Int} (h : Gd ps c vs) (h0 : 0 ≤ n) (he : plusE c vs n = 0) :
    Gd ps (plusC c vs n) (plusV c vs n) ∧ evL ps (plusV c vs n) (plusC c vs n) = evL ps vs c + n := by
  obtain ⟨hle, eC, eV⟩ := plus_ok h.vld h0 he
  have hpp := plus_parts (c := c) (vs := vs) n
  have hl := (leastI_ge c vs).1
  have hc := (vldB_parts h.vld).1
  have hin : InP ps (plusV c vs n) := by
    rw [eV]
    intro p hpm
    unfold plusVs at hpm
    obtain ⟨q, hq, rfl⟩ := List.mem_map.1 hpm
    exact h.inp q hq
  have hg : Gd ps (plusC c vs n) (plusV c vs n) := by
    refine ⟨?_, hin⟩
    rw [eC]
    rcases canon_cases (m := c + n) (plusVs n vs) with ⟨e, _⟩ | ⟨e, h2⟩
    · rw [e]
      exact vld_of (by omega) (by omega) hpp.2.1 hpp.2.2.1 (.inl rfl)
    · rw [e, eV]
      rw [eV] at hpp
      exact vld_of (by omega) (by omega) hpp.2.1 hpp.2.2.1 (.inr h2)
  refine ⟨hg, ?_⟩
  rw [eC, ← eV, evL_canon hp hin (by omega)]
  refine int_ext fun k => ?_
  have e1 := evL_iff h.inp (k - n) c
  have e2 : k ≤ evL ps vs c + n ↔ k - n ≤ evL ps vs c := by omega
  rw [evL_iff hin, e2, e1, eV]
  constructor
  · rintro (h1 | ⟨p, hpm, h1⟩)
    · exact .inl (by omega)
    · unfold plusVs at hpm
      obtain ⟨q, hq, rfl⟩ := List.mem_map.1 hpm
      exact .inr ⟨q, hq, by unfold vv at h1 ⊢; simp only at h1; omega⟩
  · rintro (h1 | ⟨p, hpm, h1⟩)
    · exact .inl (by omega)
    · exact .inr ⟨(p.1, p.2 + n), by unfold plusVs; exact List.mem_map.2 ⟨p, hpm, rfl⟩, by unfold vv at h1 ⊢; simp only; omega⟩
/-- What holds of the collector during a replacement. -/
structure CG (ps : List Int) (C : Int) (M : List (Int × Int)) : Prop where
  c0 : 0 ≤ C ∧ C ≤ 100
  asc : Asc M
  inr : ∀ p ∈ M, (-65536 ≤ p.1 ∧ p.1 ≤ 7) ∧ 0 ≤ p.2 ∧ p.2 ≤ 100
  inp : InP ps M
theorem rep_val {ps : List Int} (hp : ∀ i, 0 ≤ ps.getD i 0) (val : Int → Option LvD) : ∀ (vs : List (Int × Int)) (C : Int) (M : List (Int × Int)), CG ps C M →
    (∀ p ∈ vs, 0 ≤ p.2 ∧ ∃ l, val p.1 = some l ∧ Gd ps l.c l.vs) →
    ((repR val vs C M).2 = 0 → CG ps (repR val vs C M).1.1 (repR val vs C M).1.2 ∧ ∀ k, k ≤ evL ps (repR val vs C M).1.2 (repR val vs C M).1.1 ↔ k ≤ evL ps M C ∨ ∃ p ∈ vs, ∃ l, val p.1 = some l ∧ k ≤ evL ps l.vs l.c + p.2) ∧
    ((repR val vs C M).2 ≠ 0 → (repR val vs C M).2 = 15) := by
  intro vs
  induction vs with
  | nil =>
    intro C M hC _
    exact ⟨fun _ => ⟨hC, fun k => by simp [repR]⟩, fun h => absurd rfl h⟩
  | cons p r ih =>
    intro C M hC hv
    obtain ⟨h0, l, hl, hg⟩ := hv p (by simp)
    have hr : ∀ q ∈ r, 0 ≤ q.2 ∧ ∃ l, val q.1 = some l ∧ Gd ps l.c l.vs := fun q hq => hv q (by simp [hq])
    unfold repR
    rw [hl]
    simp only
    by_cases he : plusE l.c l.vs p.2 = 0
    · rw [if_pos he]
      obtain ⟨hpg, hpe⟩ := plus_val hp hg h0 he
      have hpp := plus_parts (c := l.c) (vs := l.vs) p.2
      have hpc := (vldB_parts hpg.vld).1
      have em := raiseAll_mg (plusV l.c l.vs p.2) M hC.asc hpp.2.1 (fun q hq => (hpp.2.2.1 q hq).2.1)
      have hC2 : CG ps (max C (plusC l.c l.vs p.2)) (raiseAll M (plusV l.c l.vs p.2)) := by
        rw [em]
        exact ⟨by have := hC.c0; omega, mg_pw _ _ hC.asc hpp.2.1, fun q hq => (mg_mem _ _ _ hq).elim (hC.inr q) (hpp.2.2.1 q), inP_mg hC.inp hpg.inp⟩
      obtain ⟨i1, i2⟩ := ih _ _ hC2 hr
      refine ⟨fun hz => ⟨(i1 hz).1, fun k => ?_⟩, i2⟩
      rw [(i1 hz).2 k]
      have e1 : k ≤ evL ps (raiseAll M (plusV l.c l.vs p.2)) (max C (plusC l.c l.vs p.2)) ↔ k ≤ evL ps M C ∨ k ≤ evL ps l.vs l.c + p.2 := by
        rw [em, evL_mg hC.inp hpg.inp, ← hpe, evL_iff hC.inp, evL_iff hpg.inp]
        have hm : k ≤ max C (plusC l.c l.vs p.2) ↔ k ≤ C ∨ k ≤ plusC l.c l.vs p.2 := by omega
        rw [hm]
        constructor
        · rintro ((h | h) | h | h)
          · exact .inl (.inl h)
          · exact .inr (.inl h)
          · exact .inl (.inr h)
          · exact .inr (.inr h)
        · rintro ((h | h) | (h | h))
          · exact .inl (.inl h)
          · exact .inr (.inl h)
          · exact .inl (.inr h)
          · exact .inr (.inr h)
      rw [e1]
      constructor
      · rintro ((h | h) | ⟨q, hq, h⟩)
        · exact .inl h
        · exact .inr ⟨p, by simp, l, hl, h⟩
        · exact .inr ⟨q, by simp [hq], h⟩
      · rintro (h | ⟨q, hq, l', hl', h⟩)
        · exact .inl (.inl h)
        · rcases List.mem_cons.1 hq with rfl | hq
          · rw [hl] at hl'
            cases hl'
            exact .inl (.inr h)
          · exact .inr ⟨q, hq, l', hl', h⟩
    · rw [if_neg he]
      have h15 := (plus_err p.2 hg.vld h0).resolve_left he
      exact ⟨fun hz => absurd hz he, fun _ => h15⟩
/-- Subst with three levels: no error but a level that is too great; the value is that of the values. -/
theorem subst_val {ps : List Int} (hp : ∀ i, 0 ≤ ps.getD i 0) (hlen : ps.length = 3) {c : Int} {vs : List (Int × Int)} (h : Gd ps c vs) (l0 l1 l2 : LvD) (g0 : Gd ps l0.c l0.vs) (g1 : Gd ps l1.c l1.vs) (g2 : Gd ps l2.c l2.vs) :
    ((subR c vs [l0, l1, l2]).2 = 0 → Gd ps (subR c vs [l0, l1, l2]).1.1 (subR c vs [l0, l1, l2]).1.2 ∧ valB ps (subR c vs [l0, l1, l2]).1.1 (subR c vs [l0, l1, l2]).1.2 = valB [valB ps l0.c l0.vs, valB ps l1.c l1.vs, valB ps l2.c l2.vs] c vs) ∧
    ((subR c vs [l0, l1, l2]).2 ≠ 0 → (subR c vs [l0, l1, l2]).2 = 15) := by
  have hok : [l0, l1, l2].all LvD.ok = true := by simp [LvD.ok, g0.vld, g1.vld, g2.vld]
  have hpar : ¬ ((3 : Nat) : Int) < parI c vs := by
    simp only [parI, h.vld, if_true]
    cases he : vs[vs.length - 1]? with
    | none => simp
    | some p =>
      have := h.inp p (List.mem_of_getElem? he)
      simp only
      omega
  have e : subR c vs [l0, l1, l2] = finR (repR (valS [l0, l1, l2]) vs c []) := by
    simp only [subR, h.vld, hok, and_self, if_true, List.length_cons, List.length_nil]
    rw [if_neg (by simpa using hpar)]
  rw [e]
  have hc := (vldB_parts h.vld).1
  have hval : ∀ p ∈ vs, 0 ≤ p.2 ∧ ∃ l, valS [l0, l1, l2] p.1 = some l ∧ Gd ps l.c l.vs := by
    intro p hpm
    have h1 := h.inp p hpm
    have h2 := vld_in h.vld p hpm
    refine ⟨h2.2.1, ?_⟩
    have h3 : p.1 = 0 ∨ p.1 = 1 ∨ p.1 = 2 := by omega
    rcases h3 with h3 | h3 | h3
    · exact ⟨l0, by rw [h3]; rfl, g0⟩
    · exact ⟨l1, by rw [h3]; rfl, g1⟩
    · exact ⟨l2, by rw [h3]; rfl, g2⟩
  have hCG : CG ps c [] := ⟨hc, List.Pairwise.nil, by simp, fun p hp => by simp at hp⟩
  obtain ⟨r1, r2⟩ := rep_val hp (valS [l0, l1, l2]) vs c [] hCG hval
  refine ⟨fun hz => ?_, r2⟩
  obtain ⟨k1, k2⟩ := r1 hz
  have hg : Gd ps (finR (repR (valS [l0, l1, l2]) vs c [])).1.1 (finR (repR (valS [l0, l1, l2]) vs c [])).1.2 := by
    refine ⟨?_, k1.inp⟩
    show vldB (canonC _ _) _ = true
    rcases canon_cases (m := (repR (valS [l0, l1, l2]) vs c []).1.1) (repR (valS [l0, l1, l2]) vs c []).1.2 with ⟨e1, _⟩ | ⟨e1, e2⟩
    · rw [e1]; exact vld_of (by omega) (by omega) k1.asc k1.inr (.inl rfl)
    · rw [e1]; exact vld_of k1.c0.1 k1.c0.2 k1.asc k1.inr (.inr e2)
  refine ⟨hg, ?_⟩
  have hg3 : Gd [valB ps l0.c l0.vs, valB ps l1.c l1.vs, valB ps l2.c l2.vs] c vs := ⟨h.vld, fun p hpm => by have := h.inp p hpm; rw [hlen] at this; exact this⟩
  rw [hg.val, hg3.val]
  show evL ps (repR (valS [l0, l1, l2]) vs c []).1.2 (canonC (repR (valS [l0, l1, l2]) vs c []).1.1 (repR (valS [l0, l1, l2]) vs c []).1.2) = _
  rw [evL_canon hp k1.inp k1.c0.1, g0.val, g1.val, g2.val]
  rw [g0.val, g1.val, g2.val] at hg3
  refine int_ext fun k => ?_
  rw [k2 k, evL_iff hg3.inp]
  have e0 : evL ps [] c = c := rfl
  rw [e0]
  constructor
  · rintro (h1 | ⟨p, hpm, l, hl, h1⟩)
    · exact .inl h1
    · refine .inr ⟨p, hpm, ?_⟩
      have h3 := h.inp p hpm
      have h4 : p.1 = 0 ∨ p.1 = 1 ∨ p.1 = 2 := by omega
      unfold vv
      rcases h4 with h4 | h4 | h4
      all_goals
        rw [h4] at hl ⊢
        cases hl
        exact h1
  · rintro (h1 | ⟨p, hpm, h1⟩)
    · exact .inl h1
    · refine .inr ⟨p, hpm, ?_⟩
      have h3 := h.inp p hpm
      have h4 : p.1 = 0 ∨ p.1 = 1 ∨ p.1 = 2 := by omega
      unfold vv at h1
      rcases h4 with h4 | h4 | h4
      · rw [h4] at h1 ⊢; exact ⟨l0, rfl, h1⟩
      · rw [h4] at h1 ⊢; exact ⟨l1, rfl, h1⟩
      · rw [h4] at h1 ⊢; exact ⟨l2, rfl, h1⟩
theorem val_le {ps : List Int} (hp : ∀ i, ps.getD i 0 ≤ 255) {c : Int} {vs : List (Int × Int)} (h : Gd ps c vs) : evL ps vs c ≤ 355 := by
  have hc := (vldB_parts h.vld).1
  rcases (evL_iff h.inp (evL ps vs c) c).1 (Int.le_refl _) with h1 | ⟨p, hm, h1⟩
  · omega
  · have := vld_in h.vld p hm
    have := hp p.1.toNat
    unfold vv at h1
    omega
theorem val_ge {ps : List Int} {c : Int} {vs : List (Int × Int)} (h : Gd ps c vs) : 0 ≤ evL ps vs c := by
  have hc := (vldB_parts h.vld).1
  exact (evL_iff h.inp 0 c).2 (.inl hc.1)
end Go.Proofs.YtipnabbdhmapkaaGreatDoor
