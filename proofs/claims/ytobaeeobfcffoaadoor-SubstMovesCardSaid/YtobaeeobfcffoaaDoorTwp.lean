/- Two values, put in one after the other, or both at once. -/
import Derived.Test.YtobaeeobfcffoaaDoorGod
namespace Go.Proofs.YtobaeeobfcffoaaDoor
open Go.RowKit

/-- Two shifts from 0, one after the other. -/
theorem sh_sh (a b : Nat) (t : Tm) (h : AllT Wv t 0) : (cpT (shR b 0) (cpT (shR a 0) t 0).t 0).t = (cpT (shR ((a : Int) + b) 0) t 0).t := by
  refine cp_two (c := 0) (P := fun _ => True) (fun _ _ _ _ => trivial) (fun _ _ _ _ _ _ h => shR_not h) (fun _ _ _ _ _ _ h => shR_not h) (fun _ _ _ _ _ _ h => shR_not h) ?_ t 0 trivial h
  intro i d hi _
  rw [sh_var, sh_var]
  by_cases hc : (d : Int) ≤ i ∧ (0 : Int) ≤ i - d
  · rw [if_pos hc, if_pos hc]
    show (cpT (shR b 0) (vr (i + a)) (d + 0)).t = vr (i + (a + b))
    rw [sh_var, if_pos (by omega)]
    show vr _ = vr _
    rw [Int.add_assoc]
  · rw [if_neg hc, if_neg hc]
    show (cpT (shR b 0) (vr i) (d + 0)).t = vr i
    rw [sh_var, if_neg (by omega)]
/-- A value that is not there to be found: the shift by one more goes back. -/
theorem un_sh (y : Tm) (e : Nat) (t : Tm) (h : AllT Wv t 0) : (cpT (undR [y] 0) (cpT (shR ((1 : Int) + e) 0) t 0).t e).t = (cpT (shR e 0) t 0).t := by
  have := cp_two (R1 := shR ((1 : Int) + e) 0) (R2 := undR [y] 0) (R3 := shR e 0) (c := e) (P := fun _ => True) (fun _ _ _ _ => trivial) (fun _ _ _ _ _ _ h => shR_not h) (fun _ _ _ _ _ _ h => undR_not h) (fun _ _ _ _ _ _ h => shR_not h) ?_ t 0 trivial h
  · rw [Nat.zero_add] at this; exact this
  intro i d hi _
  rw [sh_var, sh_var]
  by_cases hc : (d : Int) ≤ i ∧ (0 : Int) ≤ i - d
  · rw [if_pos hc, if_pos hc]
    show (cpT (undR [y] 0) (vr (i + (1 + e))) (d + e)).t = vr (i + e)
    rw [und_var, if_pos (by omega)]
    rw [show ([y] : List Tm)[(i + (1 + (e : Int)) - ((d + e : Nat) : Int) - 0).toNat]? = none from List.getElem?_eq_none_iff.2 (by simp only [List.length_singleton]; omega)]
    show vr _ = vr _
    simp only [List.length_singleton]
    congr 1
    omega
  · rw [if_neg hc, if_neg hc]
    show (cpT (undR [y] 0) (vr i) (d + e)).t = vr i
    rw [und_var, if_neg (by omega)]
theorem tw_pure (t x y : Tm) (ht : AllT Wv t 0) (hx : AllT Wv x 0) : (cpT (undR [y] 0) (cpT (undR [(cpT (shR 1 0) x 0).t] 0) t 0).t 0).t = (cpT (undR [x, y] 0) t 0).t := by
  refine cp_two (c := 0) (P := fun _ => True) (fun _ _ _ _ => trivial) (fun _ _ _ _ _ _ h => undR_not h) (fun _ _ _ _ _ _ h => undR_not h) (fun _ _ _ _ _ _ h => undR_not h) ?_ t 0 trivial ht
  intro i d hi _
  rw [und_var, und_var]
  by_cases hc : (d : Int) ≤ i ∧ (0 : Int) ≤ i - d
  · rw [if_pos hc, if_pos hc]
    obtain ⟨n, hn⟩ : ∃ n : Nat, i = d + n := ⟨(i - d).toNat, by omega⟩
    subst hn
    rw [show ((d : Int) + n - d - 0).toNat = n by omega]
    match n with
    | 0 =>
      show (cpT (undR [y] 0) (cpT (shR (0 + (d : Int)) 0) (cpT (shR 1 0) x 0).t 0).t (d + 0)).t = (cpT (shR (0 + (d : Int)) 0) x 0).t
      have e1 := sh_sh 1 d x hx
      rw [Int.zero_add, show (1 : Int) = ((1 : Nat) : Int) from rfl, e1]
      exact un_sh y d x hx
    | 1 =>
      show (cpT (undR [y] 0) (vr ((d : Int) + 1 - 1)) (d + 0)).t = (cpT (shR (0 + (d : Int)) 0) y 0).t
      rw [und_var, if_pos (by omega), show ((d : Int) + 1 - 1 - ((d + 0 : Nat) : Int) - 0).toNat = 0 by omega]
      rfl
    | n + 2 =>
      show (cpT (undR [y] 0) (vr ((d : Int) + (n + 2 : Nat) - 1)) (d + 0)).t = vr ((d : Int) + (n + 2 : Nat) - 2)
      rw [und_var, if_pos (by omega), show ([y] : List Tm)[((d : Int) + (n + 2 : Nat) - 1 - ((d + 0 : Nat) : Int) - 0).toNat]? = none from List.getElem?_eq_none_iff.2 (by simp only [List.length_singleton]; omega)]
      show vr _ = vr _
      simp only [List.length_singleton]
      congr 1
      omega
  · rw [if_neg hc, if_neg hc]
    show (cpT (undR [y] 0) (vr i) (d + 0)).t = vr i
    rw [und_var, if_neg (by omega)]
end Go.Proofs.YtobaeeobfcffoaaDoor
