/- Words on memory: a term, its levels, its kids. -/
import Derived.Test.YtbiifkpelldciaaDoorW
namespace Go.Proofs.YtbiifkpelldciaaDoor
open Go.RowKit

/-- A term as a tree. A level: its constant and its variables. -/
inductive Tm where
  | mk (kind index : Int) (name : ByteArray) (lvs : List (Int × List (Int × Int))) (kids : List Tm)
/-- The slice of levels at A reads as ls. -/
def LvsA (w : World) (B : Nat) (A : Option Addr) (ls : List (Int × List (Int × Int))) : Prop :=
  ls.length * 32 ≤ 140737488355328 ∧ (0 < ls.length → ∃ b off, A = some ⟨b, off, none⟩ ∧ b < B ∧
    ∀ j c vs, ls[j]? = some (c, vs) → w.cell? ⟨b, off + j * 2, none⟩ = some (.int .i64 c) ∧ ∃ A' cap, w.cell? ⟨b, off + j * 2 + 1, none⟩ = some (.slice A' vs.length cap) ∧ VA w B A' vs)
mutual
/-- The value v reads as the term. -/
def TmV (w : World) (B : Nat) : Tm → Value → Prop
  | .mk k i nm ls ks, v => ∃ AL cl AK ck, v = .agg #[.int .i64 k, .int .i64 i, .string nm, .slice AL ls.length cl, .slice AK ks.length ck] ∧ LvsA w B AL ls ∧ ks.length * 80 ≤ 140737488355328 ∧ (0 < ks.length → ∃ b off, AK = some ⟨b, off, none⟩ ∧ b < B ∧ KsV w B b off ks)
/-- From the cell off of the block b on the terms lie. -/
def KsV (w : World) (B : Nat) (b off : Nat) : List Tm → Prop
  | [] => True
  | t :: r => (∃ c0 c1 c2 c3 c4, w.cell? ⟨b, off, none⟩ = some c0 ∧ w.cell? ⟨b, off + 1, none⟩ = some c1 ∧ w.cell? ⟨b, off + 2, none⟩ = some c2 ∧ w.cell? ⟨b, off + 3, none⟩ = some c3 ∧ w.cell? ⟨b, off + 4, none⟩ = some c4 ∧ TmV w B t (.agg #[c0, c1, c2, c3, c4])) ∧ KsV w B b (off + 5) r
end
mutual
/-- The number of nodes. -/
def szT : Tm → Nat
  | .mk _ _ _ _ ks => 1 + szL ks
def szL : List Tm → Nat
  | [] => 0
  | t :: r => szT t + szL r
end
mutual
/-- The depth. -/
def dpT : Tm → Nat
  | .mk _ _ _ _ ks => dpL ks + 1
def dpL : List Tm → Nat
  | [] => 0
  | t :: r => max (dpT t) (dpL r)
end
def Tm.kids : Tm → List Tm
  | .mk _ _ _ _ ks => ks
theorem szT_pos (t : Tm) : 1 ≤ szT t := by cases t; simp [szT]
theorem szL_mem {ks : List Tm} {t : Tm} (h : t ∈ ks) : szT t ≤ szL ks := by
  induction ks with
  | nil => cases h
  | cons q r ih =>
    simp only [szL]
    rcases List.mem_cons.1 h with rfl | h
    · omega
    · have := ih h; omega
theorem szL_append (a b : List Tm) : szL (a ++ b) = szL a + szL b := by
  induction a with
  | nil => simp [szL]
  | cons q r ih => simp only [List.cons_append, szL, ih]; omega
theorem szL_take {ks : List Tm} {j : Nat} {t : Tm} (h : ks[j]? = some t) : szL (ks.take (j + 1)) = szL (ks.take j) + szT t := by
  rw [List.take_add_one, h, Option.toList_some, szL_append]
  simp [szL]
theorem szL_take_le (ks : List Tm) (j : Nat) : szL (ks.take j) ≤ szL ks := by
  have := szL_append (ks.take j) (ks.drop j)
  rw [List.take_append_drop] at this
  omega
theorem KsV.at_ {w : World} {B b : Nat} : ∀ {ks : List Tm} {off j : Nat} {t : Tm}, KsV w B b off ks → ks[j]? = some t → ∃ c0 c1 c2 c3 c4, w.cell? ⟨b, off + j * 5, none⟩ = some c0 ∧ w.cell? ⟨b, off + j * 5 + 1, none⟩ = some c1 ∧ w.cell? ⟨b, off + j * 5 + 2, none⟩ = some c2 ∧ w.cell? ⟨b, off + j * 5 + 3, none⟩ = some c3 ∧ w.cell? ⟨b, off + j * 5 + 4, none⟩ = some c4 ∧ TmV w B t (.agg #[c0, c1, c2, c3, c4]) := by
  intro ks
  induction ks with
  | nil => intro off j t _ h; simp at h
  | cons q r ih =>
    intro off j t hk h
    rw [KsV] at hk
    cases j with
    | zero =>
      simp at h
      subst h
      simpa using hk.1
    | succ j =>
      have := ih hk.2 (by simpa using h)
      rw [show off + 5 + j * 5 = off + (j + 1) * 5 by omega] at this
      exact this
mutual
theorem TmV.keep {w w' : World} {B : Nat} (hk : ∀ p : Addr, p.block < B → w'.cell? p = w.cell? p) : ∀ (t : Tm) (v : Value), TmV w B t v → TmV w' B t v
  | .mk k i nm ls ks, v, h => by
    rw [TmV] at h ⊢
    obtain ⟨AL, cl, AK, ck, rfl, hl, hz, hks⟩ := h
    refine ⟨AL, cl, AK, ck, rfl, ⟨hl.1, fun hn => ?_⟩, hz, fun hn => ?_⟩
    · obtain ⟨b, off, e, hb, hc⟩ := hl.2 hn
      refine ⟨b, off, e, hb, fun j c vs hj => ?_⟩
      obtain ⟨h1, A', cap, h2, h3⟩ := hc j c vs hj
      exact ⟨(hk _ hb).trans h1, A', cap, (hk _ hb).trans h2, h3.keep hk⟩
    · obtain ⟨b, off, e, hb, hc⟩ := hks hn
      exact ⟨b, off, e, hb, KsV.keep hk b hb ks off hc⟩
theorem KsV.keep {w w' : World} {B : Nat} (hk : ∀ p : Addr, p.block < B → w'.cell? p = w.cell? p) (b : Nat) (hb : b < B) : ∀ (ks : List Tm) (off : Nat), KsV w B b off ks → KsV w' B b off ks
  | [], _, _ => by rw [KsV]; trivial
  | t :: r, off, h => by
    rw [KsV] at h ⊢
    obtain ⟨⟨c0, c1, c2, c3, c4, h0, h1, h2, h3, h4, ht⟩, hr⟩ := h
    exact ⟨⟨c0, c1, c2, c3, c4, (hk _ hb).trans h0, (hk _ hb).trans h1, (hk _ hb).trans h2, (hk _ hb).trans h3, (hk _ hb).trans h4, TmV.keep hk t _ ht⟩, KsV.keep hk b hb r _ hr⟩
end
theorem TmV.below {w w' : World} {B B' : Nat} {t : Tm} {v : Value} (h : TmV w B t v) (hb : Below B' w w') (hB : B ≤ B') : TmV w' B t v := TmV.keep (fun _ hp => hb.cell (by omega)) t v h
end Go.Proofs.YtbiifkpelldciaaDoor
