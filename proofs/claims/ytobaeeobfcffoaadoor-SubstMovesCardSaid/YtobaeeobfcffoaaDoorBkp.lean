/- Values, put into what was shifted for them; a part, put into what was abstracted from it: the term comes back. -/
import Derived.Test.YtobaeeobfcffoaaDoorLis
import Derived.Test.YtobaeeobfcffoaaDoorTwp
import Derived.Test.YtobaeeobfcffoaaDoorOcc
namespace Go.Proofs.YtobaeeobfcffoaaDoor
open Go.RowKit

mutual
theorem sameT_eq : ∀ a b : Tm, sameT a b = true → a = b
  | .mk k i nm ls ks, .mk k' i' nm' ls' ks', h => by
    rw [sameT_mk] at h
    simp only [Bool.and_eq_true, decide_eq_true_eq] at h
    obtain ⟨rfl, rfl, rfl, rfl, hl, hs⟩ := h
    rw [sameL_eq ks ks' hl hs]
theorem sameL_eq : ∀ a b : List Tm, a.length = b.length → sameL a b = true → a = b
  | [], [], _, _ => rfl
  | [], _ :: _, h, _ => by simp at h
  | _ :: _, [], h, _ => by simp at h
  | t :: r, t' :: r', hl, h => by
    rw [sameL, Bool.and_eq_true] at h
    rw [sameT_eq t t' h.1, sameL_eq r r' (by simpa using hl) h.2]
end
mutual
theorem back_t (vals : List Tm) : ∀ (t : Tm) (d : Nat), AllT Wv t d → (cpT (shR vals.length 0) t d).e = 0 → cpT (undR vals 0) (cpT (shR vals.length 0) t d).t d = ⟨szT t, 0, 0, t⟩
  | .mk k i nm ls ks, d, h, he => by
    by_cases hk : k = 0
    · obtain ⟨e, hi⟩ := h.here.eq hk
      rw [e] at he ⊢
      rw [sh_var] at he ⊢
      rw [szT_vr]
      by_cases hc : (d : Int) ≤ i ∧ (0 : Int) ≤ i - d
      · rw [if_pos hc] at he ⊢
        have h1 := big_zero (er_eq_zero.1 he).2
        show cpT (undR vals 0) (vr (i + vals.length)) d = _
        rw [und_var, if_pos (by omega), List.getElem?_eq_none_iff.2 (by omega)]
        show Ou.mk 1 0 (big (i + vals.length - vals.length)) (vr (i + vals.length - vals.length)) = _
        rw [show i + (vals.length : Int) - vals.length = i by omega]
        unfold big
        rw [if_neg (by omega)]
      · rw [if_neg hc]
        show cpT (undR vals 0) (vr i) d = _
        rw [und_var, if_neg (by omega)]
    · rw [cpT_none (shR_not hk)] at he ⊢
      rw [AllT] at h
      have hl := back_l vals ks k d 0 h.2 he
      show cpT (undR vals 0) (.mk k i nm ls (cpL (shR vals.length 0) ks k d 0).ts) d = _
      rw [cpT_none (undR_not hk), hl, szT]
theorem back_l (vals : List Tm) : ∀ (ks : List Tm) (k : Int) (d j : Nat), AllL Wv ks k d j → (cpL (shR vals.length 0) ks k d j).e = 0 → cpL (undR vals 0) (cpL (shR vals.length 0) ks k d j).ts k d j = ⟨szL ks, 0, 0, ks⟩
  | [], _, _, _, _, _ => by rw [cpL, cpL, szL]
  | q :: r, k, d, j, h, he => by
    rw [AllL] at h
    rw [cpL] at he ⊢
    have he' := er_eq_zero.1 he
    rw [cpL, back_t vals q _ h.1 he'.1, back_l vals r k d (j + 1) h.2 he'.2, szL, er_zero]
    rfl
end
mutual
theorem sh_f0 (b f : Int) : ∀ (t : Tm) (d : Nat), (cpT (shR b f) t d).f = 0
  | .mk k i nm ls ks, d => by
    cases hr : shR b f (.mk k i nm ls ks) d with
    | some x =>
      rw [cpT_some hr]
      simp only [shR] at hr
      split at hr
      · injection hr with hr; rw [← hr]
      · cases hr
    | none => rw [cpT_none hr]; exact sh_f0L b f ks k d 0
theorem sh_f0L (b f : Int) : ∀ (ks : List Tm) (k : Int) (d j : Nat), (cpL (shR b f) ks k d j).f = 0
  | [], _, _, _ => by rw [cpL]
  | q :: r, k, d, j => by
    rw [cpL]
    show _ + _ = 0
    rw [sh_f0 b f q _, sh_f0L b f r k d (j + 1)]
end
theorem ex_pt {part : Tm} {d : Nat} (h : EX part d = true) : cpT (shR d 0) part 0 = ⟨szT (PT part d), 0, 0, PT part d⟩ := by
  unfold EX at h
  have h0 := of_decide_eq_true h
  obtain ⟨h1, h2⟩ := shE_zero h0
  unfold PT
  rw [h1]
  have h3 := cp_sz (cnt_sh (d : Int) 0) part 0 h2
  have h4 := sh_f0 (d : Int) 0 part 0
  generalize cpT (shR (d : Int) 0) part 0 = x at *
  cases x
  simp_all
theorem absP_var {part : Tm} {i : Int} {d : Nat} (hn : ¬ (EX part d = true ∧ sameT (vr i) (PT part d) = true)) : cpT (absP part) (vr i) d = if (d : Int) ≤ i ∧ (0 : Int) ≤ i - d then ⟨1, 0, er (if i - d - 0 < -1 then 24 else 0) (big (i + 1)), vr (i + 1)⟩ else ⟨1, 0, 0, vr i⟩ := by
  have e : absP part (vr i) d = shR 1 0 (vr i) d := by unfold absP; rw [if_neg hn]
  by_cases hc : (d : Int) ≤ i ∧ (0 : Int) ≤ i - d
  · rw [cpT_some (by rw [e, shR_var, if_pos hc]), if_pos hc]
  · rw [cp_var_none (by rw [e, shR_var, if_neg hc]), if_neg hc]
theorem absP_hit {part t : Tm} {d : Nat} (h : EX part d = true ∧ sameT t (PT part d) = true) : cpT (absP part) t d = ⟨1, 1, big d, vr d⟩ := cpT_some (by unfold absP; rw [if_pos h])
theorem absP_not {part : Tm} {k i : Int} {nm : ByteArray} {ls : List (Int × List (Int × Int))} {ks : List Tm} {d : Nat} (hn : ¬ (EX part d = true ∧ sameT (.mk k i nm ls ks) (PT part d) = true)) (hk : ¬ k = 0) : absP part (.mk k i nm ls ks) d = none := by
  unfold absP
  rw [if_neg hn, shR_not hk]
mutual
theorem ab_t (part : Tm) : ∀ (t : Tm) (d : Nat), AllT Wv t d → (cpT (absP part) t d).e = 0 → cpT (undR [part] 0) (cpT (absP part) t d).t d = ⟨szT t, 0, 0, t⟩
  | .mk k i nm ls ks, d, h, he => by
    by_cases hh : EX part d = true ∧ sameT (.mk k i nm ls ks) (PT part d) = true
    · rw [absP_hit hh]
      show cpT (undR [part] 0) (vr d) d = _
      rw [und_var, if_pos (by omega), show ((d : Int) - d - 0).toNat = 0 by omega]
      show cpT (shR (0 + (d : Int)) 0) part 0 = _
      rw [Int.zero_add, ex_pt hh.1, ← sameT_eq _ _ hh.2]
    · by_cases hk : k = 0
      · obtain ⟨e, hi⟩ := h.here.eq hk
        rw [e] at he hh ⊢
        rw [absP_var hh] at he ⊢
        rw [szT_vr]
        by_cases hc : (d : Int) ≤ i ∧ (0 : Int) ≤ i - d
        · rw [if_pos hc] at he ⊢
          have h1 := big_zero (er_eq_zero.1 he).2
          show cpT (undR [part] 0) (vr (i + 1)) d = _
          rw [und_var, if_pos (by omega), List.getElem?_eq_none_iff.2 (by simp only [List.length_singleton]; omega)]
          show Ou.mk 1 0 (big (i + 1 - ([part].length : Nat))) (vr (i + 1 - ([part].length : Nat))) = _
          rw [show i + 1 - (([part].length : Nat) : Int) = i by simp only [List.length_singleton]; omega]
          unfold big
          rw [if_neg (by omega)]
        · rw [if_neg hc]
          show cpT (undR [part] 0) (vr i) d = _
          rw [und_var, if_neg (by omega)]
      · rw [cpT_none (absP_not hh hk)] at he ⊢
        rw [AllT] at h
        have hl := ab_l part ks k d 0 h.2 he
        show cpT (undR [part] 0) (.mk k i nm ls (cpL (absP part) ks k d 0).ts) d = _
        rw [cpT_none (undR_not hk), hl, szT]
theorem ab_l (part : Tm) : ∀ (ks : List Tm) (k : Int) (d j : Nat), AllL Wv ks k d j → (cpL (absP part) ks k d j).e = 0 → cpL (undR [part] 0) (cpL (absP part) ks k d j).ts k d j = ⟨szL ks, 0, 0, ks⟩
  | [], _, _, _, _, _ => by rw [cpL, cpL, szL]
  | q :: r, k, d, j, h, he => by
    rw [AllL] at h
    rw [cpL] at he ⊢
    have he' := er_eq_zero.1 he
    rw [cpL, ab_t part q _ h.1 he'.1, ab_l part r k d (j + 1) h.2 he'.2, szL, er_zero]
    rfl
end
/-- Variable 0 is free in what comes behind an abstraction exactly if the part was found. -/
theorem hit_vr {i : Int} {b D : Nat} (h : 0 ≤ i ∧ i ≤ 1000000000) (hb : b ≤ 1000000000) : hit 0 ⟨vr i, b, D⟩ = decide (i = b) := by
  show (isFree 0 i b && (freeV 0 i b == 0)) = _
  by_cases h1 : i < b
  · have e1 : isFree 0 i b = false := by unfold isFree; simp [h1]
    rw [e1, Bool.false_and, eq_comm, decide_eq_false_iff_not]
    omega
  · have e1 : isFree 0 i b = true := by unfold isFree; simp [h1]
    unfold freeV
    rw [e1, if_pos rfl, Bool.true_and]
    have e2 : wrap64 (i - (b : Int)) = i - b := by unfold wrap64; omega
    rw [e2]
    by_cases h2 : i = b
    · rw [decide_eq_true h2, h2]; simp
    · rw [decide_eq_false h2, beq_eq_false_iff_ne]
      omega
theorem hit_not {k i : Int} {nm : ByteArray} {ls : List (Int × List (Int × Int))} {ks : List Tm} {b D : Nat} (hk : ¬ k = 0) : hit 0 ⟨.mk k i nm ls ks, b, D⟩ = false := by
  show (isFree k i b && _) = false
  have e1 : isFree k i b = false := by unfold isFree; simp [hk]
  rw [e1, Bool.false_and]
theorem pre_vr (i : Int) (b D : Nat) : preT (vr i) b D = [⟨vr i, b, D⟩] := by
  unfold vr
  rw [preT, preL]
mutual
theorem ab_occ (part : Tm) : ∀ (t : Tm) (d D : Nat), AllT Wv t d → d + szT t ≤ 1000000000 → (cpT (absP part) t d).e = 0 → (0 < (cpT (absP part) t d).f ↔ ∃ n ∈ preT (cpT (absP part) t d).t d D, hit 0 n = true)
  | .mk k i nm ls ks, d, D, h, hd, he => by
    rw [szT] at hd
    by_cases hh : EX part d = true ∧ sameT (.mk k i nm ls ks) (PT part d) = true
    · rw [absP_hit hh, ] at he ⊢
      show 0 < 1 ↔ ∃ n ∈ preT (vr d) d D, hit 0 n = true
      rw [pre_vr]
      refine ⟨fun _ => ⟨_, List.mem_singleton_self _, ?_⟩, fun _ => Nat.one_pos⟩
      rw [hit_vr (by omega) (by omega)]
      exact decide_eq_true rfl
    · by_cases hk : k = 0
      · obtain ⟨e, hi⟩ := h.here.eq hk
        rw [e] at he hh ⊢
        rw [absP_var hh] at he ⊢
        by_cases hc : (d : Int) ≤ i ∧ (0 : Int) ≤ i - d
        · rw [if_pos hc] at he ⊢
          have h1 := big_zero (er_eq_zero.1 he).2
          show 0 < 0 ↔ ∃ n ∈ preT (vr (i + 1)) d D, hit 0 n = true
          rw [pre_vr]
          refine ⟨fun h => by omega, fun ⟨n, hn, hx⟩ => ?_⟩
          rw [List.mem_singleton.1 hn, hit_vr (by omega) (by omega)] at hx
          have := of_decide_eq_true hx
          omega
        · rw [if_neg hc]
          show 0 < 0 ↔ ∃ n ∈ preT (vr i) d D, hit 0 n = true
          rw [pre_vr]
          refine ⟨fun h => by omega, fun ⟨n, hn, hx⟩ => ?_⟩
          rw [List.mem_singleton.1 hn, hit_vr (by omega) (by omega)] at hx
          have := of_decide_eq_true hx
          omega
      · rw [cpT_none (absP_not hh hk)] at he ⊢
        rw [AllT] at h
        have hl := ab_occL part ks k d D 0 h.2 (by omega) he
        show 0 < (cpL (absP part) ks k d 0).f ↔ ∃ n ∈ preT (.mk k i nm ls (cpL (absP part) ks k d 0).ts) d D, hit 0 n = true
        rw [hl, preT]
        constructor
        · rintro ⟨n, hn, hx⟩
          exact ⟨n, List.mem_cons_of_mem _ hn, hx⟩
        · rintro ⟨n, hn, hx⟩
          rcases List.mem_cons.1 hn with rfl | hn
          · rw [hit_not hk] at hx; cases hx
          · exact ⟨n, hn, hx⟩
theorem ab_occL (part : Tm) : ∀ (ks : List Tm) (k : Int) (d D j : Nat), AllL Wv ks k d j → d + szL ks + 1 ≤ 1000000000 → (cpL (absP part) ks k d j).e = 0 → (0 < (cpL (absP part) ks k d j).f ↔ ∃ n ∈ preL (cpL (absP part) ks k d j).ts k d D j, hit 0 n = true)
  | [], _, _, _, _, _, _, _ => by
    rw [cpL, preL]
    exact ⟨fun h => absurd h (Nat.lt_irrefl _), fun ⟨_, h, _⟩ => by cases h⟩
  | q :: r, k, d, D, j, h, hd, he => by
    rw [AllL] at h
    rw [szL] at hd
    rw [cpL] at he ⊢
    have he' := er_eq_zero.1 he
    have hb : bbN k j ≤ 1 := by unfold bbN; split <;> omega
    have h1 := ab_occ part q (d + bbN k j) (D + 1) h.1 (by omega) he'.1
    have h2 := ab_occL part r k d D (j + 1) h.2 (by have := szT_pos q; omega) he'.2
    show 0 < _ + _ ↔ ∃ n ∈ preL (_ :: _) k d D j, hit 0 n = true
    rw [preL]
    have e : d + (if 0 < j ∧ j = bindK k then 1 else 0) = d + bbN k j := rfl
    rw [e]
    constructor
    · intro hp
      by_cases hz : 0 < (cpT (absP part) q (d + bbN k j)).f
      · obtain ⟨n, hn, hx⟩ := h1.1 hz
        exact ⟨n, List.mem_append_left _ hn, hx⟩
      · obtain ⟨n, hn, hx⟩ := h2.1 (by omega)
        exact ⟨n, List.mem_append_right _ hn, hx⟩
    · rintro ⟨n, hn, hx⟩
      rcases List.mem_append.1 hn with hn | hn
      · have := h1.2 ⟨n, hn, hx⟩; omega
      · have := h2.2 ⟨n, hn, hx⟩; omega
end
end Go.Proofs.YtobaeeobfcffoaaDoor
