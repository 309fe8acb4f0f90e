/- The kids of an accepted term. -/
import Derived.Test.YtbiifkpelldciaaDoorRck
namespace Go.Proofs.YtbiifkpelldciaaDoor
open Go.RowKit

mutual
/-- The indices are numbers of 64 bits. -/
def WfT : Tm → Prop
  | .mk _ i _ _ ks => (-9223372036854775808 ≤ i ∧ i ≤ 9223372036854775807) ∧ WfL ks
def WfL : List Tm → Prop
  | [] => True
  | t :: r => WfT t ∧ WfL r
end
theorem WfL.at_ : ∀ {ks : List Tm}, WfL ks → ∀ {j : Nat} (hj : j < ks.length), WfT ks[j]
  | [], _, _, hj => absurd hj (by simp)
  | t :: r, h, 0, _ => by rw [WfL] at h; exact h.1
  | t :: r, h, j + 1, hj => by rw [WfL] at h; exact h.2.at_ (by simpa using hj)
theorem wfL_of {f : Nat → Tm} (h : ∀ j, WfT (f j)) : ∀ (l : List Nat), WfL (l.map f)
  | [] => by rw [List.map_nil, WfL]; trivial
  | n :: r => by rw [List.map_cons, WfL]; exact ⟨h n, wfL_of h r⟩

theorem endN_shift {v m k i : Int} {b c : Nat} (hi : -9223372036854775808 ≤ i ∧ i ≤ 9223372036854775807) (hb : b + c ≤ 1000000000) : endN v m k i ((b + c : Nat) : Int) = endN (v + c) m k i b := by
  have h : (decide (i < 0) || decide (v ≤ wrap64 (i - ((b + c : Nat) : Int)))) = (decide (i < 0) || decide (v + c ≤ wrap64 (i - b))) := by
    by_cases hn : i < 0
    · simp [hn]
    · have e1 : wrap64 (i - ((b + c : Nat) : Int)) = i - b - c := by unfold wrap64; omega
      have e2 : wrap64 (i - b) = i - b := by unfold wrap64; omega
      rw [e1, e2]
      congr 1
      exact decide_eq_decide.2 (by omega)
  unfold endN
  rw [h]
theorem chkN_shift {v p m l k i : Int} {b c nk : Nat} {nm : ByteArray} {ls : List (Int × List (Int × Int))} (hi : -9223372036854775808 ≤ i ∧ i ≤ 9223372036854775807) (hb : b + c ≤ 1000000000) : chkN v p m l k i ((b + c : Nat) : Int) nm ls nk = chkN (v + c) p m l k i b nm ls nk := by
  unfold chkN
  rw [endN_shift hi hb]
mutual
theorem chkT_shift (v p m l : Int) (c : Nat) : ∀ (t : Tm) (b d d' : Nat), WfT t → b + c + szT t ≤ 1000000000 → chkL v p m l (preT t (b + c) d) = chkL (v + c) p m l (preT t b d')
  | .mk k i nm ls ks, b, d, d', hw, hs => by
    rw [WfT] at hw
    rw [szT] at hs
    rw [preT, preT, chkL, chkL]
    have e : chkT v p m l ⟨.mk k i nm ls ks, b + c, d⟩ = chkT (v + c) p m l ⟨.mk k i nm ls ks, b, d'⟩ := by
      unfold chkT
      exact chkN_shift hw.1 (by omega)
    rw [e, chkL_shift v p m l c ks k b d d' 0 hw.2 (by omega)]
theorem chkL_shift (v p m l : Int) (c : Nat) : ∀ (ks : List Tm) (k : Int) (b d d' j : Nat), WfL ks → b + c + szL ks + 1 ≤ 1000000000 → chkL v p m l (preL ks k (b + c) d j) = chkL (v + c) p m l (preL ks k b d' j)
  | [], k, b, d, d', j, _, _ => by rw [preL, preL]; rfl
  | q :: r, k, b, d, d', j, hw, hs => by
    rw [WfL] at hw
    rw [szL] at hs
    have hx : (if 0 < j ∧ j = bindK k then 1 else 0 : Nat) ≤ 1 := by split <;> omega
    rw [preL, preL, chkL_append, chkL_append, show b + c + (if 0 < j ∧ j = bindK k then 1 else 0) = b + (if 0 < j ∧ j = bindK k then 1 else 0) + c by omega, chkT_shift v p m l c q _ (d + 1) (d' + 1) hw.1 (by omega), chkL_shift v p m l c r k b d d' (j + 1) hw.2 (by omega)]
end
theorem chkC_parts {v p m l : Int} {t : Tm} (h : chkC v p m l t = 0) : chkL (max 0 v) (max 0 p) (max 0 m) (max 0 l) (preT t 0 1) = 0 ∧ szT t ≤ 4096 ∧ dpT t ≤ 200 := by
  unfold chkC at h
  split at h
  · rename_i hn; exact absurd h hn
  · rename_i hn
    split at h
    · cases h
    · split at h
      · cases h
      · exact ⟨Decidable.not_not.1 hn, by omega, by omega⟩
theorem chkC_of {v p m l : Int} {t : Tm} (h : chkL (max 0 v) (max 0 p) (max 0 m) (max 0 l) (preT t 0 1) = 0) (h1 : szT t ≤ 4096) (h2 : dpT t ≤ 200) : chkC v p m l t = 0 := by
  unfold chkC
  rw [if_neg (fun e => e h), if_neg (by omega), if_neg (by omega)]
theorem chkL_app0 {v p m l : Int} {a b : List Nd} (h : chkL v p m l (a ++ b) = 0) : chkL v p m l a = 0 ∧ chkL v p m l b = 0 := by
  rw [chkL_append] at h
  split at h
  · rename_i e; exact ⟨e, h⟩
  · rename_i e; exact absurd h e
theorem chkC_kid {v p m l k i : Int} {nm : ByteArray} {ls : List (Int × List (Int × Int))} {ks : List Tm} (hw : WfT (.mk k i nm ls ks)) (h : chkC v p m l (.mk k i nm ls ks) = 0) {j : Nat} (hj : j < ks.length) : chkC (max v 0 + binI k j) p m l ks[j] = 0 := by
  obtain ⟨h1, h2, h3⟩ := chkC_parts h
  rw [szT] at h2
  rw [dpT] at h3
  rw [WfT] at hw
  rw [preT, chkL] at h1
  have h0 : chkL (max 0 v) (max 0 p) (max 0 m) (max 0 l) (preL ks k 0 1 0) = 0 := by
    split at h1
    · exact h1
    · rename_i e; exact absurd h1 e
  have hd : ∀ n, n ≤ ks.length → chkL (max 0 v) (max 0 p) (max 0 m) (max 0 l) (preL (ks.drop n) k 0 1 n) = 0 := by
    intro n
    induction n with
    | zero => intro _; exact h0
    | succ n ih =>
      intro hn
      have := ih (by omega)
      rw [preL_drop (by omega : n < ks.length)] at this
      exact (chkL_app0 this).2
  have hk := hd j (by omega)
  rw [preL_drop hj] at hk
  have hk' := (chkL_app0 hk).1
  have hs := szL_mem (List.getElem_mem hj)
  have hdp : dpT ks[j] ≤ dpL ks := by
    have e := dpL_take (List.getElem?_eq_getElem hj)
    have e2 : dpL (ks.take (j + 1) ++ ks.drop (j + 1)) = dpL ks := by rw [List.take_append_drop]
    rw [dpL_append] at e2
    omega
  have hx : (if 0 < j ∧ j = bindK k then 1 else 0 : Nat) ≤ 1 := by split <;> omega
  rw [chkT_shift _ _ _ _ _ ks[j] 0 (1 + 1) 1 (hw.2.at_ hj) (by omega), ← binI_bind] at hk'
  have hb : 0 ≤ binI k j := by unfold binI; split <;> omega
  have e : max 0 (max v 0 + binI k j) = max 0 v + binI k j := by omega
  exact chkC_of (by rw [e]; exact hk') (by omega) (by omega)
end Go.Proofs.YtbiifkpelldciaaDoor
