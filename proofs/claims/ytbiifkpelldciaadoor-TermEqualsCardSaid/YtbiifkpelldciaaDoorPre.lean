/- The nodes of a term in preorder, as a list. -/
import Derived.Test.YtbiifkpelldciaaDoorRdp
namespace Go.Proofs.YtbiifkpelldciaaDoor
open Go.RowKit

/-- The kid of a kind that is below a binder; 0 if none is. -/
def bindK (k : Int) : Nat := if k = 5 ∨ k = 6 ∨ k = 7 then 1 else if k = 11 then 2 else 0
/-- A node at its place: below so many binders, so many nodes deep. -/
structure Nd where
  t : Tm
  b : Nat
  d : Nat
/-- The place of kid number i. -/
def kidNd (k : Int) (b d i : Nat) (q : Tm) : Nd := ⟨q, b + (if 0 < i ∧ i = bindK k then 1 else 0), d + 1⟩
def Tm.kind : Tm → Int
  | .mk k _ _ _ _ => k
/-- The kids from number i on, at their places. -/
def kidsNd (k : Int) (b d : Nat) : Nat → List Tm → List Nd
  | _, [] => []
  | i, q :: r => kidNd k b d i q :: kidsNd k b d (i + 1) r
mutual
def preT : Tm → Nat → Nat → List Nd
  | .mk k i nm ls ks, b, d => ⟨.mk k i nm ls ks, b, d⟩ :: preL ks k b d 0
def preL : List Tm → Int → Nat → Nat → Nat → List Nd
  | [], _, _, _, _ => []
  | q :: r, k, b, d, i => preT q (b + (if 0 < i ∧ i = bindK k then 1 else 0)) (d + 1) ++ preL r k b d (i + 1)
end
def Nd.pre (n : Nd) : List Nd := preT n.t n.b n.d
theorem preL_kids : ∀ (ks : List Tm) (k : Int) (b d i : Nat), preL ks k b d i = (kidsNd k b d i ks).flatMap Nd.pre
  | [], _, _, _, _ => by rw [preL, kidsNd]; rfl
  | q :: r, k, b, d, i => by rw [preL, kidsNd, List.flatMap_cons, preL_kids r k b d (i + 1)]; rfl
theorem pre_cons (n : Nd) : n.pre = n :: (kidsNd n.t.kind n.b n.d 0 n.t.kids).flatMap Nd.pre := by
  obtain ⟨t, b, d⟩ := n
  cases t with
  | mk k i nm ls ks =>
    show preT _ _ _ = _
    rw [preT, preL_kids]
    rfl
/-- What a stack still yields: its last node first. -/
def rest (st : List Nd) : List Nd := st.reverse.flatMap Nd.pre
theorem rest_push (st : List Nd) (n : Nd) : rest (st ++ [n]) = n :: rest (st ++ (kidsNd n.t.kind n.b n.d 0 n.t.kids).reverse) := by
  unfold rest
  rw [List.reverse_append, List.reverse_append, List.reverse_reverse, List.flatMap_append, List.flatMap_append, List.reverse_singleton, List.flatMap_cons, List.flatMap_nil, List.append_nil, pre_cons]
  rfl
theorem rest_nil : rest [] = [] := rfl
theorem kidsNd_length (k : Int) (b d : Nat) : ∀ (ks : List Tm) (i : Nat), (kidsNd k b d i ks).length = ks.length
  | [], _ => rfl
  | _ :: r, i => by rw [kidsNd, List.length_cons, List.length_cons, kidsNd_length k b d r (i + 1)]
theorem kidsNd_at (k : Int) (b d : Nat) : ∀ (ks : List Tm) (i j : Nat) (q : Tm), ks[j]? = some q → (kidsNd k b d i ks)[j]? = some (kidNd k b d (i + j) q)
  | [], _, _, _, h => by simp at h
  | p :: r, i, j, q, h => by
    cases j with
    | zero => simp at h; subst h; rfl
    | succ j =>
      rw [kidsNd, List.getElem?_cons_succ, kidsNd_at k b d r (i + 1) j q (by simpa using h), show i + 1 + j = i + (j + 1) by omega]
mutual
theorem preT_length : ∀ (t : Tm) (b d : Nat), (preT t b d).length = szT t
  | .mk k i nm ls ks, b, d => by rw [preT, List.length_cons, preL_length ks k b d 0, szT]; omega
theorem preL_length : ∀ (ks : List Tm) (k : Int) (b d i : Nat), (preL ks k b d i).length = szL ks
  | [], _, _, _, _ => by rw [preL, szL]; rfl
  | q :: r, k, b, d, i => by rw [preL, List.length_append, preT_length q _ _, preL_length r k b d (i + 1), szL]
end
/-- The greatest depth. -/
def maxD : Nat → List Nd → Nat
  | m, [] => m
  | m, n :: r => maxD (max m n.d) r
theorem maxD_append : ∀ (a b : List Nd) (m : Nat), maxD m (a ++ b) = maxD (maxD m a) b
  | [], _, _ => rfl
  | n :: r, b, m => by rw [List.cons_append, maxD, maxD, maxD_append r b]
mutual
theorem preT_depth : ∀ (t : Tm) (b d m : Nat), maxD m (preT t b d) = max m (d + dpT t - 1)
  | .mk k i nm ls ks, b, d, m => by
    rw [preT, maxD, preL_depth ks k b d 0 (max m d) (by omega), dpT]
    show max (max m d) _ = _
    omega
theorem preL_depth : ∀ (ks : List Tm) (k : Int) (b d i m : Nat), d ≤ m → maxD m (preL ks k b d i) = max m (d + dpL ks)
  | [], _, _, _, _, m, h => by rw [preL, dpL, maxD]; omega
  | q :: r, k, b, d, i, m, h => by
    rw [preL, maxD_append, preT_depth q _ _ m, preL_depth r k b d (i + 1) _ (by omega), dpL]
    omega
end
theorem pre_depth (t : Tm) : maxD 0 (preT t 0 1) = dpT t := by
  rw [preT_depth]
  omega
end Go.Proofs.YtbiifkpelldciaaDoor
