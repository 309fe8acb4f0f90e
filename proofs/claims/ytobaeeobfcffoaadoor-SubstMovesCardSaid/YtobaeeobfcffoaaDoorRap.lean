/- What the reference's abstract makes of a term, as a function; it is what the program's makes. -/
import Derived.Test.YtobaeeobfcffoaaDoorSup
namespace Go.Proofs.YtobaeeobfcffoaaDoor
open Go.RowKit

/-- The reference's abstract at a node. -/
def raR (part : Tm) : Tm → Nat → Option Ou
  | .mk k i nm ls ks, d => if (cpT (rfR d 0) part 0).e = 0 ∧ sameT (.mk k i nm ls ks) (cpT (rfR d 0) part 0).t = true then some ⟨1, 1, big d, vr d⟩
    else if k = 0 then some (if (d : Int) ≤ i then ⟨1, 0, big (i + 1), vr (i + 1)⟩ else ⟨1, 0, 0, .mk k i nm ls ks⟩) else none
mutual
theorem ra_f (part : Tm) : ∀ (t : Tm) (d : Nat), (cpT (raR part) t d).f ≤ szT t
  | .mk k i nm ls ks, d => by
    cases hr : raR part (.mk k i nm ls ks) d with
    | some x =>
      rw [cpT_some hr]
      have hp := szT_pos (.mk k i nm ls ks)
      simp only [raR] at hr
      split at hr
      · injection hr with hr; rw [← hr]; exact hp
      · split at hr
        · injection hr with hr
          rw [← hr]
          split
          · show 0 ≤ _; omega
          · show 0 ≤ _; omega
        · cases hr
    | none =>
      rw [cpT_none hr, szT]
      have := ra_fL part ks k d 0
      show (cpL (raR part) ks k d 0).f ≤ _
      omega
theorem ra_fL (part : Tm) : ∀ (ks : List Tm) (k : Int) (d j : Nat), (cpL (raR part) ks k d j).f ≤ szL ks
  | [], _, _, _ => by rw [cpL, szL]; exact Nat.le_refl _
  | q :: r, k, d, j => by
    rw [cpL, szL]
    have h1 := ra_f part q (d + bbN k j)
    have h2 := ra_fL part r k d (j + 1)
    show _ + _ ≤ _
    omega
end
mutual
theorem allT_both {P Q : Tm → Nat → Prop} : ∀ (t : Tm) (d : Nat), AllT P t d → AllT Q t d → AllT (fun t d => P t d ∧ Q t d) t d
  | .mk k i nm ls ks, d, h, g => by
    rw [AllT] at h g ⊢
    exact ⟨⟨h.1, g.1⟩, allL_both ks k d 0 h.2 g.2⟩
theorem allL_both {P Q : Tm → Nat → Prop} : ∀ (ks : List Tm) (k : Int) (d j : Nat), AllL P ks k d j → AllL Q ks k d j → AllL (fun t d => P t d ∧ Q t d) ks k d j
  | [], _, _, _, _, _ => by rw [AllL]; trivial
  | q :: r, k, d, j, h, g => by
    rw [AllL] at h g ⊢
    exact ⟨allT_both q _ h.1 g.1, allL_both r k d (j + 1) h.2 g.2⟩
end
mutual
theorem allT_dep (N : Nat) : ∀ (t : Tm) (d : Nat), d + szT t ≤ N → AllT (fun _ d => d ≤ N) t d
  | .mk k i nm ls ks, d, h => by
    rw [szT] at h
    rw [AllT]
    exact ⟨by omega, allL_dep N ks k d 0 (by omega)⟩
theorem allL_dep (N : Nat) : ∀ (ks : List Tm) (k : Int) (d j : Nat), d + 1 + szL ks ≤ N → AllL (fun _ d => d ≤ N) ks k d j
  | [], _, _, _, _ => by rw [AllL]; trivial
  | q :: r, k, d, j, h => by
    rw [szL] at h
    rw [AllL]
    have hb : bbN k j ≤ 1 := by unfold bbN; split <;> omega
    exact ⟨allT_dep N q _ (by omega), allL_dep N r k d (j + 1) (by have := szT_pos q; omega)⟩
end
theorem ra_node {part : Tm} (hp : GoodT part) (t : Tm) (d : Nat) (h : Wg t d ∧ d ≤ 1000) : AgO t (absP part t d) (raR part t d) := by
  cases t with
  | mk k i nm ls ks =>
    obtain ⟨e1, e2⟩ := sh_rf (by_ := (d : Int)) (fr := 0) (Int.le_refl _) (by omega) part hp.wg (by have := hp.sz; omega)
    rw [show min (0 : Int) 65536 = 0 from rfl] at e1 e2
    have hc : (EX part d = true ∧ sameT (.mk k i nm ls ks) (PT part d) = true) ↔ ((cpT (rfR d 0) part 0).e = 0 ∧ sameT (.mk k i nm ls ks) (cpT (rfR d 0) part 0).t = true) := by
      unfold EX PT
      rw [e1, e2, decide_eq_true_eq]
      constructor
      · rintro ⟨h1, h2⟩
        rw [if_pos h1] at h2
        exact ⟨h1, h2⟩
      · rintro ⟨h1, h2⟩
        rw [if_pos h1]
        exact ⟨h1, h2⟩
    by_cases hh : (cpT (rfR d 0) part 0).e = 0 ∧ sameT (.mk k i nm ls ks) (cpT (rfR d 0) part 0).t = true
    · have a1 : absP part (.mk k i nm ls ks) d = some ⟨1, 1, big d, vr d⟩ := by unfold absP; rw [if_pos (hc.2 hh)]
      have a2 : raR part (.mk k i nm ls ks) d = some ⟨1, 1, big d, vr d⟩ := by simp only [raR]; rw [if_pos hh]
      rw [a1, a2]
      exact .some ⟨rfl, rfl, rfl, fun _ => rfl⟩
    · have a1 : absP part (.mk k i nm ls ks) d = shR 1 0 (.mk k i nm ls ks) d := by unfold absP; rw [if_neg (fun e => hh (hc.1 e))]
      rw [a1]
      by_cases hk : k = 0
      · obtain ⟨e, hi⟩ := h.1.1.eq hk
        have a2 : raR part (.mk k i nm ls ks) d = some (if (d : Int) ≤ i then ⟨1, 0, big (i + 1), vr (i + 1)⟩ else ⟨1, 0, 0, .mk k i nm ls ks⟩) := by simp only [raR]; rw [if_neg hh, if_pos hk]
        rw [a2, e, shR_var]
        by_cases h1 : (d : Int) ≤ i
        · rw [if_pos h1, if_pos ⟨h1, by omega⟩, if_neg (by omega), er_zero]
          exact .some ⟨rfl, rfl, rfl, fun _ => rfl⟩
        · rw [if_neg h1, if_neg (fun e => h1 e.1)]
          exact .left rfl
      · have a2 : raR part (.mk k i nm ls ks) d = none := by simp only [raR]; rw [if_neg hh, if_neg hk]
        rw [a2, shR_not hk]
        exact .none
/-- What the reference's Abstract gives. -/
def raE (part t : Tm) : Int := (cpT (raR part) t 0).e
def raO (part t : Tm) : Tm := if raE part t = 0 then (cpT (raR part) t 0).t else nilT
def raN (part t : Tm) : Nat := if raE part t = 0 then (cpT (raR part) t 0).f else 0
mutual
theorem cp_nle {R : Tm → Nat → Option Ou} (hR : ∀ t d x, R t d = some x → x.n = 1) : ∀ (t : Tm) (d : Nat), (cpT R t d).n ≤ szT t
  | .mk k i nm ls ks, d => by
    cases hr : R (.mk k i nm ls ks) d with
    | some x => rw [cpT_some hr, hR _ _ _ hr]; exact szT_pos _
    | none =>
      rw [cpT_none hr, szT]
      have := cp_nleL hR ks k d 0
      show 1 + _ ≤ 1 + _
      omega
theorem cp_nleL {R : Tm → Nat → Option Ou} (hR : ∀ t d x, R t d = some x → x.n = 1) : ∀ (ks : List Tm) (k : Int) (d j : Nat), (cpL R ks k d j).n ≤ szL ks
  | [], _, _, _ => by rw [cpL, szL]; exact Nat.le_refl _
  | q :: r, k, d, j => by
    rw [cpL, szL]
    have h1 := cp_nle hR q (d + bbN k j)
    have h2 := cp_nleL hR r k d (j + 1)
    show _ + _ ≤ _
    omega
end
theorem absP_n1 (part : Tm) : ∀ t d x, absP part t d = some x → x.n = 1 := by
  intro t d x h
  unfold absP at h
  split at h
  · injection h with h; rw [← h]
  · exact shR_n1 1 0 t d x h
theorem ra_ab {part t : Tm} (ht : GoodT t) (hp : GoodT part) : raE part t = errO (cpT (absP part) t 0) ∧ raO part t = resO (cpT (absP part) t 0) ∧ raN part t = abN part t := by
  have hz := ht.sz
  have hag := cpT_ag (R := absP part) (R' := raR part) t 0 (AllT.mono (fun t d h => ra_node hp t d ⟨h.1, h.2⟩) _ _ (allT_both t 0 ht.wg (allT_dep 1000 t 0 (by omega))))
  have hn := cp_nle (absP_n1 part) t 0
  have e0 : errO (cpT (absP part) t 0) = (cpT (absP part) t 0).e := by unfold errO; rw [if_neg (by omega)]
  have e1 : raE part t = errO (cpT (absP part) t 0) := by rw [e0]; exact hag.2.2.1.symm
  refine ⟨e1, ?_, ?_⟩
  · unfold raO resO
    rw [e1]
    by_cases h : errO (cpT (absP part) t 0) = 0
    · rw [if_pos h, if_pos h]
      exact (hag.2.2.2 (by rw [← e0]; exact h)).symm
    · rw [if_neg h, if_neg h]
  · unfold raN abN
    rw [e1]
    by_cases h : errO (cpT (absP part) t 0) = 0
    · rw [if_pos h, if_pos h, hag.2.1]
    · rw [if_neg h, if_neg h]
end Go.Proofs.YtobaeeobfcffoaaDoor
