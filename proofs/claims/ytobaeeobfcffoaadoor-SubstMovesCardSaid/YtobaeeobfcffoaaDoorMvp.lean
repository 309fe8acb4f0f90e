/- Shifts, one after the other and back; Rename with the numbers of a shift. -/
import Derived.Test.YtobaeeobfcffoaaDoorBkp
import Derived.Test.YtobaeeobfcffoaaDoorFrp
import Derived.Test.YtobaeeobfcffoaaDoorRrn
import Derived.Test.YtobaeeobfcffoaaDoorRap
namespace Go.Proofs.YtobaeeobfcffoaaDoor
open Go.RowKit

theorem mem_stepF {x : Int} {S : List Int} {n : Nd} : x ∈ stepF S n ↔ hit x n = true ∨ x ∈ S := by
  obtain ⟨⟨k, i, nm, ls, ks⟩, b, d⟩ := n
  unfold stepF hit
  simp only [Bool.and_eq_true, beq_iff_eq]
  by_cases h : isFree k i b = true
  · rw [if_pos h, mem_insS]
    simp only [h, true_and]
    rw [eq_comm]
  · rw [if_neg h]
    simp [h]
theorem mem_foldF {x : Int} : ∀ {l : List Nd} {S : List Int}, x ∈ l.foldl stepF S ↔ x ∈ S ∨ ∃ n ∈ l, hit x n = true
  | [], S => by simp
  | n :: r, S => by
    rw [List.foldl_cons, mem_foldF, mem_stepF]
    simp only [List.mem_cons, exists_eq_or_imp]
    constructor
    · rintro ((h | h) | h)
      · exact .inr (.inl h)
      · exact .inl h
      · exact .inr (.inr h)
    · rintro (h | h | h)
      · exact .inl (.inr h)
      · exact .inl (.inl h)
      · exact .inr h
theorem mem_freeT {x : Int} {t : Tm} : x ∈ freeT t ↔ ∃ n ∈ preT t 0 1, hit x n = true := by
  unfold freeT freeS
  rw [mem_foldF]
  simp


theorem er_24 {a b : Int} (ha : a = 0 ∨ a = 24) (hb : b = 0 ∨ b = 24) : er a b = 0 ∨ er a b = 24 := by
  unfold er
  split
  · exact hb
  · exact ha
mutual
theorem sh_e24 (b f : Int) : ∀ (t : Tm) (d : Nat), (cpT (shR b f) t d).e = 0 ∨ (cpT (shR b f) t d).e = 24
  | .mk k i nm ls ks, d => by
    cases hr : shR b f (.mk k i nm ls ks) d with
    | some x =>
      rw [cpT_some hr]
      simp only [shR] at hr
      split at hr
      · injection hr with hr
        rw [← hr]
        exact er_24 (by split <;> simp) (by unfold big; split <;> simp)
      · cases hr
    | none => rw [cpT_none hr]; exact sh_e24L b f ks k d 0
theorem sh_e24L (b f : Int) : ∀ (ks : List Tm) (k : Int) (d j : Nat), (cpL (shR b f) ks k d j).e = 0 ∨ (cpL (shR b f) ks k d j).e = 24
  | [], _, _, _ => by rw [cpL]; exact .inl rfl
  | q :: r, k, d, j => by
    rw [cpL]
    have h1 := sh_e24 b f q (d + bbN k j)
    have h2 := sh_e24L b f r k d (j + 1)
    exact er_24 h1 h2
end
mutual
theorem mv_two (n m fr : Nat) : ∀ (t : Tm) (d : Nat), AllT Wv t d → (cpT (shR n fr) t d).e = 0 → cpT (shR m fr) (cpT (shR n fr) t d).t d = cpT (shR ((n : Int) + m) fr) t d
  | .mk k i nm ls ks, d, h, he => by
    by_cases hk : k = 0
    · obtain ⟨e, hi⟩ := h.here.eq hk
      rw [e] at he ⊢
      rw [sh_var] at he ⊢
      rw [sh_var]
      by_cases hc : (d : Int) ≤ i ∧ (fr : Int) ≤ i - d
      · rw [if_pos hc] at he ⊢
        rw [if_pos hc]
        show cpT (shR m fr) (vr (i + n)) d = _
        rw [sh_var, if_pos (by omega), if_neg (by omega), if_neg (by omega), Int.add_assoc]
      · rw [if_neg hc, if_neg hc]
        show cpT (shR m fr) (vr i) d = _
        rw [sh_var, if_neg hc]
    · rw [cpT_none (shR_not hk)] at he ⊢
      rw [AllT] at h
      show cpT (shR m fr) (.mk k i nm ls (cpL (shR n fr) ks k d 0).ts) d = cpT (shR ((n : Int) + m) fr) (.mk k i nm ls ks) d
      rw [cpT_none (shR_not hk), cpT_none (shR_not hk), mv_twoL n m fr ks k d 0 h.2 he]
theorem mv_twoL (n m fr : Nat) : ∀ (ks : List Tm) (k : Int) (d j : Nat), AllL Wv ks k d j → (cpL (shR n fr) ks k d j).e = 0 → cpL (shR m fr) (cpL (shR n fr) ks k d j).ts k d j = cpL (shR ((n : Int) + m) fr) ks k d j
  | [], _, _, _, _, _ => by rw [cpL, cpL, cpL]
  | q :: r, k, d, j, h, he => by
    rw [AllL] at h
    rw [cpL] at he ⊢
    have he' := er_eq_zero.1 he
    rw [cpL, cpL, mv_two n m fr q _ h.1 he'.1, mv_twoL n m fr r k d (j + 1) h.2 he'.2]
end
mutual
theorem mv_bad (n m fr : Nat) : ∀ (t : Tm) (d : Nat), (cpT (shR ((n : Int) + m) fr) t d).e = 0 → (cpT (shR n fr) t d).e = 0
  | .mk k i nm ls ks, d, he => by
    by_cases hc : k = 0 ∧ (d : Int) ≤ i ∧ (fr : Int) ≤ i - d
    · have e1 : ∀ b : Int, shR b fr (.mk k i nm ls ks) d = some ⟨1, 0, er (if i - d - fr < -b then 24 else 0) (big (i + b)), vr (i + b)⟩ := fun b => by simp only [shR]; rw [if_pos hc]
      rw [cpT_some (e1 _)] at he ⊢
      have h1 := big_zero (er_eq_zero.1 he).2
      show er (if i - d - fr < -(n : Int) then 24 else 0) (big (i + n)) = 0
      rw [if_neg (by omega), er_zero]
      unfold big
      rw [if_neg (by omega)]
    · have e1 : ∀ b : Int, shR b fr (.mk k i nm ls ks) d = none := fun b => by simp only [shR]; rw [if_neg hc]
      rw [cpT_none (e1 _)] at he ⊢
      exact mv_badL n m fr ks k d 0 he
theorem mv_badL (n m fr : Nat) : ∀ (ks : List Tm) (k : Int) (d j : Nat), (cpL (shR ((n : Int) + m) fr) ks k d j).e = 0 → (cpL (shR n fr) ks k d j).e = 0
  | [], _, _, _, _ => by rw [cpL]
  | q :: r, k, d, j, he => by
    rw [cpL] at he ⊢
    have he' := er_eq_zero.1 he
    exact er_eq_zero.2 ⟨mv_bad n m fr q _ he'.1, mv_badL n m fr r k d (j + 1) he'.2⟩
end
mutual
theorem mv_back (n fr : Nat) : ∀ (t : Tm) (d : Nat), AllT Wv t d → (cpT (shR n fr) t d).e = 0 → cpT (shR (-(n : Int)) fr) (cpT (shR n fr) t d).t d = ⟨szT t, 0, 0, t⟩
  | .mk k i nm ls ks, d, h, he => by
    by_cases hk : k = 0
    · obtain ⟨e, hi⟩ := h.here.eq hk
      rw [e] at he ⊢
      rw [sh_var] at he ⊢
      rw [szT_vr]
      by_cases hc : (d : Int) ≤ i ∧ (fr : Int) ≤ i - d
      · rw [if_pos hc] at he ⊢
        have h1 := big_zero (er_eq_zero.1 he).2
        show cpT (shR (-(n : Int)) fr) (vr (i + n)) d = _
        rw [sh_var, if_pos (by omega), if_neg (by omega), er_zero, show i + (n : Int) + -(n : Int) = i by omega]
        unfold big
        rw [if_neg (by omega)]
      · rw [if_neg hc]
        show cpT (shR (-(n : Int)) fr) (vr i) d = _
        rw [sh_var, if_neg hc]
    · rw [cpT_none (shR_not hk)] at he ⊢
      rw [AllT] at h
      show cpT (shR (-(n : Int)) fr) (.mk k i nm ls (cpL (shR n fr) ks k d 0).ts) d = _
      rw [cpT_none (shR_not hk), mv_backL n fr ks k d 0 h.2 he, szT]
theorem mv_backL (n fr : Nat) : ∀ (ks : List Tm) (k : Int) (d j : Nat), AllL Wv ks k d j → (cpL (shR n fr) ks k d j).e = 0 → cpL (shR (-(n : Int)) fr) (cpL (shR n fr) ks k d j).ts k d j = ⟨szL ks, 0, 0, ks⟩
  | [], _, _, _, _, _ => by rw [cpL, cpL, szL]
  | q :: r, k, d, j, h, he => by
    rw [AllL] at h
    rw [cpL] at he ⊢
    have he' := er_eq_zero.1 he
    rw [cpL, mv_back n fr q _ h.1 he'.1, mv_backL n fr r k d (j + 1) h.2 he'.2, szL, er_zero]
    rfl
end
/-- The numbers of a shift. -/
def mvs (n fr : Nat) : List Int := (List.range 300).map fun j => if fr ≤ j then (j : Int) + n else (j : Int)
theorem mvs_at (n fr : Nat) {v : Nat} (h : v < 300) : (mvs n fr)[v]? = some (if fr ≤ v then (v : Int) + n else (v : Int)) := by
  unfold mvs
  rw [List.getElem?_map, List.getElem?_range h]
  rfl
/-- A free variable is below 300. -/
def Lo (t : Tm) (d : Nat) : Prop := match t with
  | .mk k i _ _ _ => k = 0 → (d : Int) ≤ i → i - d < 300
theorem mv_node (n fr : Nat) (hn : n ≤ 255) (t : Tm) (d : Nat) (h : (Wv t d ∧ Lo t d) ∧ d ≤ 1000) : AgO t (shR n fr t d) (renR (mvs n fr) t d) := by
  cases t with
  | mk k i nm ls ks =>
    by_cases hk : k = 0
    · obtain ⟨e, hi⟩ := h.1.1.eq hk
      obtain ⟨_, rfl, rfl, rfl⟩ : k = 0 ∧ nm = ⟨#[]⟩ ∧ ls = [] ∧ ks = [] := by unfold vr at e; simpa using e
      have hlo := h.1.2 hk
      subst hk
      by_cases h1 : (d : Int) ≤ i
      · have hlo := hlo h1
        obtain ⟨v, hv⟩ : ∃ v : Nat, i - (d : Int) = v := ⟨(i - d).toNat, by omega⟩
        have a2 : renR (mvs n fr) (.mk 0 i ⟨#[]⟩ [] []) d = some ⟨1, 0, big ((if fr ≤ v then (v : Int) + n else (v : Int)) + d), vr ((if fr ≤ v then (v : Int) + n else (v : Int)) + d)⟩ := by
          simp only [renR]
          rw [if_pos ⟨trivial, h1⟩, hv, show ((v : Int)).toNat = v by omega, mvs_at n fr (by omega)]
          simp only
          rw [if_neg (by split <;> omega)]
        rw [a2]
        by_cases h2 : fr ≤ v
        · have a1 : shR n fr (.mk 0 i ⟨#[]⟩ [] []) d = some ⟨1, 0, er (if i - d - fr < -(n : Int) then 24 else 0) (big (i + n)), vr (i + n)⟩ := by simp only [shR]; rw [if_pos ⟨trivial, h1, by omega⟩]
          rw [a1, if_pos h2, if_neg (by omega), er_zero, show (v : Int) + n + d = i + n by omega]
          exact .some ⟨rfl, rfl, rfl, fun _ => rfl⟩
        · have a1 : shR n fr (.mk 0 i ⟨#[]⟩ [] []) d = none := by simp only [shR]; rw [if_neg (fun e => by have := e.2.2; omega)]
          have hb : big i = 0 := by unfold big; rw [if_neg (by omega)]
          rw [a1, if_neg h2, show (v : Int) + d = i by omega, hb]
          exact .left rfl
      · have a1 : shR n fr (.mk 0 i ⟨#[]⟩ [] []) d = none := by simp only [shR]; rw [if_neg (fun e => h1 e.2.1)]
        have a2 : renR (mvs n fr) (.mk 0 i ⟨#[]⟩ [] []) d = none := by simp only [renR]; rw [if_neg (fun e => h1 e.2)]
        rw [a1, a2]
        exact .none
    · have a2 : renR (mvs n fr) (.mk k i nm ls ks) d = none := by simp only [renR]; rw [if_neg (fun e => hk e.1)]
      rw [shR_not hk, a2]
      exact .none
mutual
theorem allT_pre {P : Tm → Nat → Prop} : ∀ (t : Tm) (b D : Nat), (∀ n ∈ preT t b D, P n.t n.b) → AllT P t b
  | .mk k i nm ls ks, b, D, h => by
    rw [preT] at h
    rw [AllT]
    exact ⟨h _ (List.mem_cons_self ..), allL_pre ks k b D 0 (fun n hn => h n (List.mem_cons_of_mem _ hn))⟩
theorem allL_pre {P : Tm → Nat → Prop} : ∀ (ks : List Tm) (k : Int) (b D j : Nat), (∀ n ∈ preL ks k b D j, P n.t n.b) → AllL P ks k b j
  | [], _, _, _, _, _ => by rw [AllL]; trivial
  | q :: r, k, b, D, j, h => by
    rw [preL] at h
    rw [AllL]
    exact ⟨allT_pre q _ (D + 1) (fun n hn => h n (List.mem_append_left _ hn)), allL_pre r k b D (j + 1) (fun n hn => h n (List.mem_append_right _ hn))⟩
end
mutual
theorem pre_b (N : Nat) : ∀ (t : Tm) (b D : Nat), b + szT t ≤ N → AllT Qv t b → ∀ n ∈ preT t b D, n.b ≤ N ∧ Qv n.t n.b
  | .mk k i nm ls ks, b, D, hN, hq, n, hn => by
    rw [szT] at hN
    rw [AllT] at hq
    rw [preT] at hn
    rcases List.mem_cons.1 hn with rfl | hn
    · exact ⟨by show b ≤ N; omega, hq.1⟩
    · exact pre_bL N ks k b D 0 (by omega) hq.2 n hn
theorem pre_bL (N : Nat) : ∀ (ks : List Tm) (k : Int) (b D j : Nat), b + 1 + szL ks ≤ N → AllL Qv ks k b j → ∀ n ∈ preL ks k b D j, n.b ≤ N ∧ Qv n.t n.b
  | [], _, _, _, _, _, _, n, hn => by rw [preL] at hn; cases hn
  | q :: r, k, b, D, j, hN, hq, n, hn => by
    rw [szL] at hN
    rw [AllL] at hq
    rw [preL] at hn
    have hb : bbN k j ≤ 1 := by unfold bbN; split <;> omega
    rcases List.mem_append.1 hn with hn | hn
    · exact pre_b N q (b + bbN k j) (D + 1) (by omega) hq.1 n hn
    · exact pre_bL N r k b D (j + 1) (by have := szT_pos q; omega) hq.2 n hn
end
theorem lo_of {t : Tm} (ht : GoodT t) (h : ∀ x ∈ freeT t, x < 300) : AllT Lo t 0 := by
  refine allT_pre t 0 1 (fun n hn => ?_)
  obtain ⟨hb, hq⟩ := pre_b 1000 t 0 1 (by have := ht.sz; omega) ht.qv n hn
  obtain ⟨⟨k, i, nm, ls, ks⟩, b, D⟩ := n
  intro hk hbi
  have hq := hq hk
  have hbi : (b : Int) ≤ i := hbi
  have hb : b ≤ 1000 := hb
  have e1 : isFree k i b = true := by unfold isFree; simp [hk]; omega
  have e2 : wrap64 (i - (b : Int)) = i - b := by unfold wrap64; omega
  refine h (i - b) (mem_freeT.2 ⟨_, hn, ?_⟩)
  show (isFree k i b && (freeV k i b == i - b)) = true
  unfold freeV
  rw [e1, if_pos rfl, e2]
  simp
theorem asc_last {S : List Int} (h : AscI S) {x : Int} (hx : x ∈ S) (hl : 0 < S.length) : x ≤ S[S.length - 1] := by
  obtain ⟨j, hj, rfl⟩ := List.getElem_of_mem hx
  by_cases e : j = S.length - 1
  · subst e; exact Int.le_refl _
  · exact Int.le_of_lt (List.pairwise_iff_getElem.1 h j (S.length - 1) hj (by omega) (by omega))
/-- The shifts of an accepted term by small numbers. -/
theorem mv_shE {t : Tm} {b : Int} {fr : Nat} (hb : -65536 ≤ b ∧ b ≤ 65536) (hz : szT t ≤ 4096) : shE b fr t = (cpT (shR b fr) t 0).e ∧ shO b fr t = if (cpT (shR b fr) t 0).e = 0 then (cpT (shR b fr) t 0).t else nilT := by
  have hn : ¬ ((fr : Int) < 0 ∨ b < -65536 ∨ 65536 < b) := by omega
  have h1 := cp_n1 (shR_n1 b fr) t 0
  have e0 : errO (cpT (shR b fr) t 0) = (cpT (shR b fr) t 0).e := by unfold errO; rw [if_neg (by omega)]
  unfold shE shO
  rw [if_neg hn, if_neg hn]
  unfold resO
  rw [e0]
  exact ⟨rfl, rfl⟩
theorem mv_all {t : Tm} (ht : GoodT t) {n m fr : Nat} (hn : n ≤ 255) (hm : m ≤ 255) :
    (shE n fr t = 0 ∨ shE n fr t = 24) ∧ (shE m fr (shO n fr t) = 0 ∨ shE m fr (shO n fr t) = 24) ∧ (shE n fr t ≠ 0 → shE ((n : Int) + m) fr t = 24) ∧ (shE n fr t = 0 → shE m fr (shO n fr t) = shE ((n : Int) + m) fr t ∧ (shE m fr (shO n fr t) = 0 → shO m fr (shO n fr t) = shO ((n : Int) + m) fr t) ∧ shE (-(n : Int)) fr (shO n fr t) = 0 ∧ shO (-(n : Int)) fr (shO n fr t) = t ∧ (AllT Lo t 0 → errO (cpT (renR (mvs n fr)) t 0) = 0 ∧ resO (cpT (renR (mvs n fr)) t 0) = shO n fr t)) := by
  have hz := ht.sz
  obtain ⟨a1, a2⟩ := mv_shE (t := t) (b := n) (fr := fr) (by omega) (by omega)
  obtain ⟨b1, b2⟩ := mv_shE (t := t) (b := (n : Int) + m) (fr := fr) (by omega) (by omega)
  have hs := (shO_small (by_ := n) (fr := fr) ht.qv).1
  obtain ⟨c1, c2⟩ := mv_shE (t := shO n fr t) (b := m) (fr := fr) (by omega) hs
  obtain ⟨d1, d2⟩ := mv_shE (t := shO n fr t) (b := -(n : Int)) (fr := fr) (by omega) hs
  refine ⟨by rw [a1]; exact sh_e24 _ _ t 0, by rw [c1]; exact sh_e24 _ _ _ 0, fun h => ?_, fun h => ?_⟩
  · rw [a1] at h
    rw [b1]
    exact (sh_e24 _ _ t 0).resolve_left (fun e => h (mv_bad n m fr t 0 e))
  · rw [a1] at h
    have o1 : shO n fr t = (cpT (shR n fr) t 0).t := by rw [a2, if_pos h]
    have h2 := mv_two n m fr t 0 ht.wv h
    have h3 := mv_back n fr t 0 ht.wv h
    rw [o1] at c1 c2 d1 d2 ⊢
    rw [h2] at c1 c2
    rw [h3] at d1 d2
    refine ⟨by rw [c1, b1], fun _ => by rw [c2, b2], d1, by rw [d2]; rfl, fun hlo => ?_⟩
    have hag := cpT_ag (R := shR n fr) (R' := renR (mvs n fr)) t 0 (AllT.mono (fun t d h => mv_node n fr hn t d h) _ _ (allT_both t 0 (allT_both t 0 ht.wv hlo) (allT_dep 1000 t 0 (by omega))))
    have hn2 := cp_nl (renR_n (mvs n fr)) t 0
    have e0 : errO (cpT (renR (mvs n fr)) t 0) = 0 := by unfold errO; rw [if_neg (by omega), ← hag.2.2.1]; exact h
    refine ⟨e0, ?_⟩
    unfold resO
    rw [if_pos e0]
    exact (hag.2.2.2 h).symm
end Go.Proofs.YtobaeeobfcffoaaDoor
