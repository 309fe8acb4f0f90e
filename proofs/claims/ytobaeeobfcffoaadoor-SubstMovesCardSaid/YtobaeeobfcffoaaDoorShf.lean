/- Words on memory: a term whose blocks meet a predicate; what stays where some blocks are written. -/
import Derived.Test.YtobaeeobfcffoaaDoorCpy
import Derived.Test.YtobaeeobfcffoaaDoorFwk
import Derived.Test.YtobaeeobfcffoaaDoorRsm
/-! Words on memory: a term whose blocks meet a predicate; what stays where some blocks are written. -/
namespace Go.Proofs.YtobaeeobfcffoaaDoor
open Go.RowKit

def VP (w : World) (S : Nat → Prop) (A : Option Addr) (vs : List (Int × Int)) : Prop :=
  vs.length * 16 ≤ 140737488355328 ∧ (0 < vs.length → ∃ b off, A = some ⟨b, off, none⟩ ∧ S b ∧
    ∀ j x y, vs[j]? = some (x, y) → w.cell? ⟨b, off + j * 2, none⟩ = some (.int .i64 x) ∧ w.cell? ⟨b, off + j * 2 + 1, none⟩ = some (.int .i64 y))
def LvsP (w : World) (S : Nat → Prop) (A : Option Addr) (ls : List (Int × List (Int × Int))) : Prop :=
  ls.length * 32 ≤ 140737488355328 ∧ (0 < ls.length → ∃ b off, A = some ⟨b, off, none⟩ ∧ S b ∧
    ∀ j c vs, ls[j]? = some (c, vs) → w.cell? ⟨b, off + j * 2, none⟩ = some (.int .i64 c) ∧ ∃ A' cap, w.cell? ⟨b, off + j * 2 + 1, none⟩ = some (.slice A' vs.length cap) ∧ VP w S A' vs)
mutual
/-- The value v reads as the term; its blocks meet S. -/
def TmP (w : World) (S : Nat → Prop) : Tm → Value → Prop
  | .mk k i nm ls ks, v => ∃ AL cl AK ck, v = .agg #[.int .i64 k, .int .i64 i, .string nm, .slice AL ls.length cl, .slice AK ks.length ck] ∧ LvsP w S AL ls ∧ ks.length * 80 ≤ 140737488355328 ∧ (0 < ks.length → ∃ b off, AK = some ⟨b, off, none⟩ ∧ S b ∧ KsP w S b off ks)
def KsP (w : World) (S : Nat → Prop) (b off : Nat) : List Tm → Prop
  | [] => True
  | t :: r => (∃ c0 c1 c2 c3 c4, w.cell? ⟨b, off, none⟩ = some c0 ∧ w.cell? ⟨b, off + 1, none⟩ = some c1 ∧ w.cell? ⟨b, off + 2, none⟩ = some c2 ∧ w.cell? ⟨b, off + 3, none⟩ = some c3 ∧ w.cell? ⟨b, off + 4, none⟩ = some c4 ∧ TmP w S t (.agg #[c0, c1, c2, c3, c4])) ∧ KsP w S b (off + 5) r
end
section
variable {w w' : World} {S S' : Nat → Prop}
theorem VP.keep {A : Option Addr} {vs : List (Int × Int)} (h : VP w S A vs) (hk : ∀ p : Addr, S p.block → w'.cell? p = w.cell? p) : VP w' S A vs :=
  ⟨h.1, fun hn => by
    obtain ⟨b, off, e, hb, hc⟩ := h.2 hn
    exact ⟨b, off, e, hb, fun j x y hj => ⟨(hk _ hb).trans (hc j x y hj).1, (hk _ hb).trans (hc j x y hj).2⟩⟩⟩
theorem VP.mono {A : Option Addr} {vs : List (Int × Int)} (h : VP w S A vs) (hS : ∀ k, S k → k < w.heap.size → S' k) : VP w S' A vs :=
  ⟨h.1, fun hn => by
    obtain ⟨b, off, e, hb, hc⟩ := h.2 hn
    have hg : vs[0]? = some (vs[0].1, vs[0].2) := List.getElem?_eq_getElem hn
    exact ⟨b, off, e, hS b hb (World.block_lt_of_cell? w _ (hc 0 _ _ hg).1), hc⟩⟩
theorem LvsP.keep {A : Option Addr} {ls : List (Int × List (Int × Int))} (h : LvsP w S A ls) (hk : ∀ p : Addr, S p.block → w'.cell? p = w.cell? p) : LvsP w' S A ls :=
  ⟨h.1, fun hn => by
    obtain ⟨b, off, e, hb, hc⟩ := h.2 hn
    refine ⟨b, off, e, hb, fun j c vs hj => ?_⟩
    obtain ⟨h1, A', cap, h2, h3⟩ := hc j c vs hj
    exact ⟨(hk _ hb).trans h1, A', cap, (hk _ hb).trans h2, h3.keep hk⟩⟩
theorem LvsP.mono {A : Option Addr} {ls : List (Int × List (Int × Int))} (h : LvsP w S A ls) (hS : ∀ k, S k → k < w.heap.size → S' k) : LvsP w S' A ls :=
  ⟨h.1, fun hn => by
    obtain ⟨b, off, e, hb, hc⟩ := h.2 hn
    have hg : ls[0]? = some (ls[0].1, ls[0].2) := List.getElem?_eq_getElem hn
    refine ⟨b, off, e, hS b hb (World.block_lt_of_cell? w _ (hc 0 _ _ hg).1), fun j c vs hj => ?_⟩
    obtain ⟨h1, A', cap, h2, h3⟩ := hc j c vs hj
    exact ⟨h1, A', cap, h2, h3.mono hS⟩⟩
mutual
theorem TmP.keep (hk : ∀ p : Addr, S p.block → w'.cell? p = w.cell? p) : ∀ (t : Tm) (v : Value), TmP w S t v → TmP w' S t v
  | .mk k i nm ls ks, v, h => by
    rw [TmP] at h ⊢
    obtain ⟨AL, cl, AK, ck, rfl, hl, hz, hks⟩ := h
    refine ⟨AL, cl, AK, ck, rfl, hl.keep hk, hz, fun hn => ?_⟩
    obtain ⟨b, off, e, hb, hc⟩ := hks hn
    exact ⟨b, off, e, hb, KsP.keep hk b hb ks off hc⟩
theorem KsP.keep (hk : ∀ p : Addr, S p.block → w'.cell? p = w.cell? p) (b : Nat) (hb : S b) : ∀ (ks : List Tm) (off : Nat), KsP w S b off ks → KsP w' S b off ks
  | [], _, _ => by rw [KsP]; trivial
  | t :: r, off, h => by
    rw [KsP] at h ⊢
    obtain ⟨⟨c0, c1, c2, c3, c4, h0, h1, h2, h3, h4, ht⟩, hr⟩ := h
    exact ⟨⟨c0, c1, c2, c3, c4, (hk _ hb).trans h0, (hk _ hb).trans h1, (hk _ hb).trans h2, (hk _ hb).trans h3, (hk _ hb).trans h4, TmP.keep hk t _ ht⟩, KsP.keep hk b hb r _ hr⟩
end
mutual
theorem TmP.mono (hS : ∀ k, S k → k < w.heap.size → S' k) : ∀ (t : Tm) (v : Value), TmP w S t v → TmP w S' t v
  | .mk k i nm ls ks, v, h => by
    rw [TmP] at h ⊢
    obtain ⟨AL, cl, AK, ck, rfl, hl, hz, hks⟩ := h
    refine ⟨AL, cl, AK, ck, rfl, hl.mono hS, hz, fun hn => ?_⟩
    obtain ⟨b, off, e, hb, hc⟩ := hks hn
    refine ⟨b, off, e, ?_, KsP.mono hS b ks off hc⟩
    cases ks with
    | nil => simp at hn
    | cons t r =>
      rw [KsP] at hc
      obtain ⟨⟨_, _, _, _, _, h0, _⟩, _⟩ := hc
      exact hS b hb (World.block_lt_of_cell? w _ h0)
theorem KsP.mono (hS : ∀ k, S k → k < w.heap.size → S' k) (b : Nat) : ∀ (ks : List Tm) (off : Nat), KsP w S b off ks → KsP w S' b off ks
  | [], _, _ => by rw [KsP]; trivial
  | t :: r, off, h => by
    rw [KsP] at h ⊢
    obtain ⟨⟨c0, c1, c2, c3, c4, h0, h1, h2, h3, h4, ht⟩, hr⟩ := h
    exact ⟨⟨c0, c1, c2, c3, c4, h0, h1, h2, h3, h4, TmP.mono hS t _ ht⟩, KsP.mono hS b r _ hr⟩
end
mutual
theorem TmP.of {B : Nat} : ∀ (t : Tm) (v : Value), TmV w B t v → TmP w (· < B) t v
  | .mk k i nm ls ks, v, h => by
    rw [TmV] at h
    rw [TmP]
    obtain ⟨AL, cl, AK, ck, rfl, hl, hz, hks⟩ := h
    refine ⟨AL, cl, AK, ck, rfl, hl, hz, fun hn => ?_⟩
    obtain ⟨b, off, e, hb, hc⟩ := hks hn
    exact ⟨b, off, e, hb, KsP.of b ks off hc⟩
theorem KsP.of {B : Nat} (b : Nat) : ∀ (ks : List Tm) (off : Nat), KsV w B b off ks → KsP w (· < B) b off ks
  | [], _, _ => by rw [KsP]; trivial
  | t :: r, off, h => by
    rw [KsV] at h
    rw [KsP]
    obtain ⟨⟨c0, c1, c2, c3, c4, h0, h1, h2, h3, h4, ht⟩, hr⟩ := h
    exact ⟨⟨c0, c1, c2, c3, c4, h0, h1, h2, h3, h4, TmP.of t _ ht⟩, KsP.of b r _ hr⟩
end
mutual
theorem TmP.tmV' {B : Nat} : ∀ (t : Tm) (v : Value), TmP w (· < B) t v → TmV w B t v
  | .mk k i nm ls ks, v, h => by
    rw [TmP] at h
    rw [TmV]
    obtain ⟨AL, cl, AK, ck, rfl, hl, hz, hks⟩ := h
    refine ⟨AL, cl, AK, ck, rfl, hl, hz, fun hn => ?_⟩
    obtain ⟨b, off, e, hb, hc⟩ := hks hn
    exact ⟨b, off, e, hb, KsP.ksV' b ks off hc⟩
theorem KsP.ksV' {B : Nat} (b : Nat) : ∀ (ks : List Tm) (off : Nat), KsP w (· < B) b off ks → KsV w B b off ks
  | [], _, _ => by rw [KsV]; trivial
  | t :: r, off, h => by
    rw [KsP] at h
    rw [KsV]
    obtain ⟨⟨c0, c1, c2, c3, c4, h0, h1, h2, h3, h4, ht⟩, hr⟩ := h
    exact ⟨⟨c0, c1, c2, c3, c4, h0, h1, h2, h3, h4, TmP.tmV' t _ ht⟩, KsP.ksV' b r _ hr⟩
end
theorem TmP.tmV {t : Tm} {v : Value} (h : TmP w S t v) : TmV w w.heap.size t v := TmP.tmV' t v (TmP.mono (fun _ _ h => h) t v h)
theorem KsP.at_ {b : Nat} : ∀ {ks : List Tm} {off j : Nat} {t : Tm}, KsP w S b off ks → ks[j]? = some t → ∃ c0 c1 c2 c3 c4, w.cell? ⟨b, off + j * 5, none⟩ = some c0 ∧ w.cell? ⟨b, off + j * 5 + 1, none⟩ = some c1 ∧ w.cell? ⟨b, off + j * 5 + 2, none⟩ = some c2 ∧ w.cell? ⟨b, off + j * 5 + 3, none⟩ = some c3 ∧ w.cell? ⟨b, off + j * 5 + 4, none⟩ = some c4 ∧ TmP w S t (.agg #[c0, c1, c2, c3, c4]) := by
  intro ks
  induction ks with
  | nil => intro off j t _ h; simp at h
  | cons q r ih =>
    intro off j t hk h
    rw [KsP] at hk
    cases j with
    | zero =>
      simp at h
      subst h
      simpa using hk.1
    | succ j =>
      have := ih hk.2 (by simpa using h)
      rw [show off + 5 + j * 5 = off + (j + 1) * 5 by omega] at this
      exact this
theorem KsP.of_at {b : Nat} : ∀ (ks : List Tm) (off : Nat), (∀ j t, ks[j]? = some t → ∃ c0 c1 c2 c3 c4, w.cell? ⟨b, off + j * 5, none⟩ = some c0 ∧ w.cell? ⟨b, off + j * 5 + 1, none⟩ = some c1 ∧ w.cell? ⟨b, off + j * 5 + 2, none⟩ = some c2 ∧ w.cell? ⟨b, off + j * 5 + 3, none⟩ = some c3 ∧ w.cell? ⟨b, off + j * 5 + 4, none⟩ = some c4 ∧ TmP w S t (.agg #[c0, c1, c2, c3, c4])) → KsP w S b off ks
  | [], _, _ => by rw [KsP]; trivial
  | t :: r, off, h => by
    rw [KsP]
    refine ⟨by simpa using h 0 t rfl, KsP.of_at r (off + 5) fun j q hj => ?_⟩
    rw [show off + 5 + j * 5 = off + (j + 1) * 5 by omega]
    exact h (j + 1) q (by simpa using hj)
/-- The parts of a term. -/
theorem TmP.open_ {t : Tm} {v : Value} (h : TmP w S t v) : ∃ k i nm AL nl cl AK nk ck, v = .agg #[.int .i64 k, .int .i64 i, .string nm, .slice AL nl cl, .slice AK nk ck] ∧ ∃ ls ks, t = .mk k i nm ls ks ∧ nl = ls.length ∧ nk = ks.length := by
  cases t with
  | mk k i nm ls ks =>
    rw [TmP] at h
    obtain ⟨AL, cl, AK, ck, rfl, _⟩ := h
    exact ⟨_, _, _, _, _, _, _, _, _, rfl, _, _, rfl, rfl, rfl⟩
end
/-- What a call leaves that writes to the blocks of M alone; M grows by new blocks alone. -/
structure Kp (M : World → Nat → Prop) (w w' : World) : Prop where
  os : w'.os = w.os
  tape : w'.tape = w.tape
  output : w'.output = w.output
  size : w.heap.size ≤ w'.heap.size
  block : ∀ k, k < w.heap.size → ¬ M w k → w'.heap[k]? = w.heap[k]?
  mu : ∀ k, M w' k → M w k ∨ w.heap.size ≤ k
namespace Kp
variable {M : World → Nat → Prop} {w w' w'' : World}
theorem refl (M : World → Nat → Prop) (w : World) : Kp M w w := ⟨rfl, rfl, rfl, Nat.le_refl _, fun _ _ _ => rfl, fun _ h => .inl h⟩
theorem trans (h : Kp M w w') (h' : Kp M w' w'') : Kp M w w'' :=
  ⟨h'.os.trans h.os, h'.tape.trans h.tape, h'.output.trans h.output, Nat.le_trans h.size h'.size,
    fun k hk hm => (h'.block k (Nat.lt_of_lt_of_le hk h.size) (fun hm' => (h.mu k hm').elim hm (fun h => by omega))).trans (h.block k hk hm),
    fun k hm => (h'.mu k hm).elim (fun hm => h.mu k hm) (fun hk => .inr (Nat.le_trans h.size hk))⟩
theorem cell (h : Kp M w w') {p : Addr} (hp : p.block < w.heap.size) (hm : ¬ M w p.block) : w'.cell? p = w.cell? p := World.cell?_of_block (w := w) (h.block p.block hp hm)
theorem cell' (h : Kp M w w') {p : Addr} {v : Value} (hp : w.cell? p = some v) (hm : ¬ M w p.block) : w'.cell? p = some v := (h.cell (World.block_lt_of_cell? w p hp) hm).trans hp
theorem frozen (h : Kp M w w') {p : Addr} (hp : p.block < w.heap.size) (hm : ¬ M w p.block) : w'.frozen? p = w.frozen? p := World.frozen?_of_block (w := w) (h.block p.block hp hm)
/-- A block of the call's own that is not written. -/
theorem out (h : Kp M w w') {k : Nat} (hk : k < w.heap.size) (hm : ¬ M w k) : ¬ M w' k := fun h' => (h.mu k h').elim hm (fun h => by omega)
theorem tm (h : Kp M w w') {t : Tm} {v : Value} (ht : TmP w (fun k => ¬ M w k) t v) : TmP w' (fun k => ¬ M w' k) t v := by
  have h1 : TmP w (fun k => ¬ M w k ∧ k < w.heap.size) t v := TmP.mono (fun k hm hk => ⟨hm, hk⟩) t v ht
  have h2 : TmP w' (fun k => ¬ M w k ∧ k < w.heap.size) t v := TmP.keep (fun p hp => h.cell hp.2 hp.1) t v h1
  exact TmP.mono (fun k hk _ => h.out hk.2 hk.1) t v h2
theorem old (h : Kp M w w') {Old : Nat → Prop} (ho : ∀ k, Old k → ¬ M w k) {t : Tm} {v : Value} (ht : TmP w Old t v) : TmP w' Old t v := by
  have h1 : TmP w (fun k => Old k ∧ k < w.heap.size) t v := TmP.mono (fun k hm hk => ⟨hm, hk⟩) t v ht
  exact TmP.mono (fun k hk _ => hk.1) t v (TmP.keep (fun p hp => h.cell hp.2 (ho _ hp.1)) t v h1)
theorem below (h : Kp M w w') {B : Nat} (hB : ∀ k, k < B → k < w.heap.size ∧ ¬ M w k) : Below B w w' := ⟨h.os, h.tape, h.output, h.size, fun k hk => h.block k (hB k hk).1 (hB k hk).2⟩
end Kp
end Go.Proofs.YtobaeeobfcffoaaDoor

/-! The replacers as functions; what they make of a term. -/
namespace Go.Proofs.YtobaeeobfcffoaaDoor
open Go.RowKit

def vr (i : Int) : Tm := .mk 0 i ⟨#[]⟩ [] []
/-- Too great an index. -/
def big (i : Int) : Int := if 65535 < i then 24 else 0
def shR (by_ fr : Int) : Tm → Nat → Option Ou
  | .mk k i _ _ _, d => if k = 0 ∧ (d : Int) ≤ i ∧ fr ≤ i - d then some ⟨1, 0, er (if i - d - fr < -by_ then 24 else 0) (big (i + by_)), vr (i + by_)⟩ else none
def undR (vals : List Tm) (dep : Int) : Tm → Nat → Option Ou
  | .mk k i _ _ _, d => if k = 0 ∧ (d : Int) ≤ i ∧ dep ≤ i - d then
      (match vals[(i - d - dep).toNat]? with
      | some x => some (cpT (shR (dep + d) 0) x 0)
      | none => some ⟨1, 0, big (i - vals.length), vr (i - vals.length)⟩)
    else none
def nilT : Tm := .mk 0 0 ⟨#[]⟩ [] []
def renR (tos : List Int) : Tm → Nat → Option Ou
  | .mk k i _ _ _, d => if k = 0 ∧ (d : Int) ≤ i then
      (match tos[(i - d).toNat]? with
      | some x => if x < 0 ∨ 65535 < x then some ⟨0, 0, 24, nilT⟩ else some ⟨1, 0, big (x + d), vr (x + d)⟩
      | none => some ⟨0, 0, 24, nilT⟩)
    else none
def absR (part : Tm) (t : Tm) (d : Nat) : Option Ou :=
  if (cpT (shR d 0) part 0).e = 0 ∧ sameT t (cpT (shR d 0) part 0).t = true then some ⟨1, 1, big d, vr d⟩ else shR 1 0 t d
/-- A variable is a variable alone. -/
def Wv (t : Tm) (_ : Nat) : Prop := match t with
  | .mk k i nm ls ks => k = 0 → nm = ⟨#[]⟩ ∧ ls = [] ∧ ks = [] ∧ 0 ≤ i
theorem Wv.eq {k i : Int} {nm : ByteArray} {ls : List (Int × List (Int × Int))} {ks : List Tm} {d : Nat} (h : Wv (.mk k i nm ls ks) d) (hk : k = 0) : Tm.mk k i nm ls ks = vr i ∧ 0 ≤ i := by
  obtain ⟨rfl, rfl, rfl, h0⟩ := h hk
  subst hk
  exact ⟨rfl, h0⟩
theorem shR_var {by_ fr i : Int} {d : Nat} : shR by_ fr (vr i) d = if (d : Int) ≤ i ∧ fr ≤ i - d then some ⟨1, 0, er (if i - d - fr < -by_ then 24 else 0) (big (i + by_)), vr (i + by_)⟩ else none := by
  unfold vr
  simp [shR]
  rfl
theorem shR_not {by_ fr k i : Int} {nm : ByteArray} {ls : List (Int × List (Int × Int))} {ks : List Tm} {d : Nat} (h : ¬ k = 0) : shR by_ fr (.mk k i nm ls ks) d = none := by
  simp [shR, h]
theorem cpL_nil (R : Tm → Nat → Option Ou) (k : Int) (d j : Nat) : cpL R [] k d j = ⟨0, 0, 0, []⟩ := by rw [cpL]
theorem cp_var_none {R : Tm → Nat → Option Ou} {i : Int} {d : Nat} (h : R (vr i) d = none) : cpT R (vr i) d = ⟨1, 0, 0, vr i⟩ := by
  unfold vr at *
  rw [cpT_none h, cpL_nil]
  rfl
/-- A shift of a variable. -/
theorem sh_var {by_ fr i : Int} {d : Nat} : cpT (shR by_ fr) (vr i) d = if (d : Int) ≤ i ∧ fr ≤ i - d then ⟨1, 0, er (if i - d - fr < -by_ then 24 else 0) (big (i + by_)), vr (i + by_)⟩ else ⟨1, 0, 0, vr i⟩ := by
  by_cases h : (d : Int) ≤ i ∧ fr ≤ i - d
  · rw [cpT_some (by rw [shR_var, if_pos h]), if_pos h]
  · rw [cp_var_none (by rw [shR_var, if_neg h]), if_neg h]
theorem und_var {vals : List Tm} {dep i : Int} {d : Nat} : cpT (undR vals dep) (vr i) d = if (d : Int) ≤ i ∧ dep ≤ i - d then (match vals[(i - d - dep).toNat]? with | some x => cpT (shR (dep + d) 0) x 0 | none => ⟨1, 0, big (i - vals.length), vr (i - vals.length)⟩) else ⟨1, 0, 0, vr i⟩ := by
  by_cases h : (d : Int) ≤ i ∧ dep ≤ i - d
  · rw [if_pos h]
    cases hv : vals[(i - d - dep).toNat]? with
    | some x => exact cpT_some (by simp only [vr, undR]; rw [if_pos (by simpa using h), hv])
    | none => exact cpT_some (by simp only [vr, undR]; rw [if_pos (by simpa using h), hv])
  · rw [cp_var_none (by simp only [vr, undR]; rw [if_neg (fun e => h e.2)]), if_neg h]
theorem undR_not {vals : List Tm} {dep k i : Int} {nm : ByteArray} {ls : List (Int × List (Int × Int))} {ks : List Tm} {d : Nat} (h : ¬ k = 0) : undR vals dep (.mk k i nm ls ks) d = none := by
  simp only [undR]
  rw [if_neg (fun e => h e.1)]
/- Two walks, one behind the other, are one: from variables to all terms. -/
mutual
theorem cp_two {R1 R2 R3 : Tm → Nat → Option Ou} {c : Nat} {P : Nat → Prop} (hP : ∀ d j, P d → j ≤ 1 → P (d + j)) (h1 : ∀ k i nm ls ks d, ¬ k = 0 → R1 (.mk k i nm ls ks) d = none) (h2 : ∀ k i nm ls ks d, ¬ k = 0 → R2 (.mk k i nm ls ks) d = none) (h3 : ∀ k i nm ls ks d, ¬ k = 0 → R3 (.mk k i nm ls ks) d = none)
    (hv : ∀ i d, 0 ≤ i → P d → (cpT R2 (cpT R1 (vr i) d).t (d + c)).t = (cpT R3 (vr i) d).t) : ∀ (t : Tm) (d : Nat), P d → AllT Wv t d → (cpT R2 (cpT R1 t d).t (d + c)).t = (cpT R3 t d).t
  | .mk k i nm ls ks, d, hp, h => by
    by_cases hk : k = 0
    · obtain ⟨e, hi⟩ := h.here.eq hk
      rw [e]
      exact hv i d hi hp
    · rw [cpT_none (h1 _ _ _ _ _ _ hk), cpT_none (h3 _ _ _ _ _ _ hk)]
      show (cpT R2 (.mk k i nm ls (cpL R1 ks k d 0).ts) (d + c)).t = _
      rw [cpT_none (h2 _ _ _ _ _ _ hk)]
      rw [AllT] at h
      show Tm.mk _ _ _ _ _ = Tm.mk _ _ _ _ _
      rw [cp_twoL hP h1 h2 h3 hv ks k d 0 hp h.2]
theorem cp_twoL {R1 R2 R3 : Tm → Nat → Option Ou} {c : Nat} {P : Nat → Prop} (hP : ∀ d j, P d → j ≤ 1 → P (d + j)) (h1 : ∀ k i nm ls ks d, ¬ k = 0 → R1 (.mk k i nm ls ks) d = none) (h2 : ∀ k i nm ls ks d, ¬ k = 0 → R2 (.mk k i nm ls ks) d = none) (h3 : ∀ k i nm ls ks d, ¬ k = 0 → R3 (.mk k i nm ls ks) d = none)
    (hv : ∀ i d, 0 ≤ i → P d → (cpT R2 (cpT R1 (vr i) d).t (d + c)).t = (cpT R3 (vr i) d).t) : ∀ (ks : List Tm) (k : Int) (d j : Nat), P d → AllL Wv ks k d j → (cpL R2 (cpL R1 ks k d j).ts k (d + c) j).ts = (cpL R3 ks k d j).ts
  | [], _, _, _, _, _ => by rw [cpL, cpL, cpL]
  | q :: r, k, d, j, hp, h => by
    rw [AllL] at h
    rw [cpL, cpL, cpL]
    have hb : bbN k j ≤ 1 := by unfold bbN; split <;> omega
    have e1 := cp_two hP h1 h2 h3 hv q (d + bbN k j) (hP _ _ hp hb) h.1
    rw [show d + bbN k j + c = d + c + bbN k j by omega] at e1
    show _ :: _ = _ :: _
    rw [e1, cp_twoL hP h1 h2 h3 hv r k d (j + 1) hp h.2]
end
end Go.Proofs.YtobaeeobfcffoaaDoor

/-! The builder: count, fail, moved; free. -/
namespace Go.Proofs.YtobaeeobfcffoaaDoor
open Go.RowKit

theorem IntKind_wrap (x : Int) (h : -9223372036854775808 ≤ x) (h' : x ≤ 9223372036854775807) : IntKind.i64.wrap x = x := by
  rw [IntKind.wrap_i64]; omega
/-- The chain of a panic of the builder. -/
def outCh : List PanicEntry := [{ v := .iface 28 (.int .i64 5), recovered := false }]

set_option maxRecDepth 100000 in
theorem count_ok (pb n : Nat) (w : World) (h0 : w.cell? ⟨pb, 0, none⟩ = some (.int .i64 n)) (hz : w.frozen? ⟨pb, 0, none⟩ = false) (hn : n + 1 ≤ 4096) :
    Calls Tryd.prog 61 #[.pointer (some ⟨pb, 0, none⟩)] w fun e w' => e = .returned (.tuple #[]) ∧ w' = w.setCell ⟨pb, 0, none⟩ (.int .i64 ((n + 1 : Nat) : Int)) := by
  have hd : decide ((4096 : Int) < (n : Int) + 1) = false := by rw [decide_eq_false_iff_not]; omega
  go_enter Tryd.func61, Tryd.ntmps61
  go_wp2
  go_end0
  exact ⟨rfl, by rw [Int.natCast_add]; rfl⟩
set_option maxRecDepth 100000 in
theorem count_out (pb n : Nat) (w : World) (h0 : w.cell? ⟨pb, 0, none⟩ = some (.int .i64 n)) (hz : w.frozen? ⟨pb, 0, none⟩ = false) (hn : 4096 < n + 1) (hn2 : n ≤ 1000000000) :
    Calls Tryd.prog 61 #[.pointer (some ⟨pb, 0, none⟩)] w fun e w' => e = .panicked outCh ∧ w' = w.setCell ⟨pb, 0, none⟩ (.int .i64 ((n + 1 : Nat) : Int)) := by
  have hd : decide ((4096 : Int) < (n : Int) + 1) = true := by rw [decide_eq_true_eq]; omega
  go_enter Tryd.func61, Tryd.ntmps61
  go_wp2
  exact ⟨rfl, rfl, by rw [Int.natCast_add]; rfl⟩
set_option maxRecDepth 100000 in
theorem fail_any (pb : Nat) (e0 x : Int) (w : World) (h1 : w.cell? ⟨pb, 1, none⟩ = some (.int .i64 e0)) (hz : w.frozen? ⟨pb, 1, none⟩ = false) :
    Calls Tryd.prog 41 #[.pointer (some ⟨pb, 0, none⟩), .int .i64 x] w fun e w' => e = .returned (.tuple #[]) ∧ w' = if e0 = 0 then w.setCell ⟨pb, 1, none⟩ (.int .i64 x) else w := by
  by_cases h : e0 = 0
  · rw [if_pos h]
    subst h
    go_enter Tryd.func41, Tryd.ntmps41
    go_wp2
    go_end0
    exact ⟨rfl, rfl⟩
  · rw [if_neg h]
    have hd : (e0 == 0) = false := by simpa using h
    go_enter Tryd.func41, Tryd.ntmps41
    go_wp2
    go_end0
    exact ⟨rfl, rfl⟩
set_option maxRecDepth 100000 in
/-- The free variable that a node is. -/
theorem sfree_any (k i bn : Int) (c2 c3 c4 : Value) (w : World) (hi : k = 0 → -1000000000000 ≤ i ∧ i ≤ 1000000000000) (hb : -1000000000000 ≤ bn ∧ bn ≤ 1000000000000) :
    Calls Tryd.prog 34 #[.agg #[.int .i64 k, .int .i64 i, c2, c3, c4], .int .i64 bn] w fun e w' => e = .returned (.tuple #[.int .i64 (if k = 0 ∧ bn ≤ i then i - bn else 0), .bool (decide (k = 0 ∧ bn ≤ i))]) ∧ w' = w.alloc (.cells #[.int .i64 k, .int .i64 i, c2, c3, c4] 25) := by
  by_cases hk : k = 0
  · by_cases hbi : bn ≤ i
    · rw [if_pos ⟨hk, hbi⟩, decide_eq_true ⟨hk, hbi⟩]
      have hi := hi hk
      have h1 : (k != 0) = false := by simpa using hk
      have h2 : decide (i < bn) = false := by rw [decide_eq_false_iff_not]; omega
      clear hk hbi
      go_enter Tryd.func34, Tryd.ntmps34
      go_wp2
      exact bodyPost_ret (v := .tuple #[.int .i64 (i - bn), .bool true]) (by simp [results, Tryd.results34, go_sem]) rfl ⟨rfl, rfl⟩
    · rw [if_neg (fun e => hbi e.2), decide_eq_false (fun e => hbi e.2)]
      have h1 : (k != 0) = false := by simpa using hk
      have h2 : decide (i < bn) = true := by rw [decide_eq_true_eq]; omega
      clear hk hbi
      go_enter Tryd.func34, Tryd.ntmps34
      go_wp2
      exact bodyPost_ret (v := .tuple #[.int .i64 0, .bool false]) (by simp [results, Tryd.results34, go_sem]) rfl ⟨rfl, rfl⟩
  · rw [if_neg (fun e => hk e.1), decide_eq_false (fun e => hk e.1)]
    clear hi
    have h1 : (k != 0) = true := by simpa using hk
    clear hk
    go_enter Tryd.func34, Tryd.ntmps34
    go_wp2
    exact bodyPost_ret (v := .tuple #[.int .i64 0, .bool false]) (by simp [results, Tryd.results34, go_sem]) rfl ⟨rfl, rfl⟩
set_option maxRecDepth 100000 in
theorem bbelow_any (k j : Int) (w : World) : Calls Tryd.prog 63 #[.int .i64 k, .int .i64 j] w fun e w' => e = .returned (.bool (decide (binI k j = 1))) ∧ w' = w := by
  obtain ⟨j1, h1⟩ : ∃ b, (j == 1) = b := ⟨_, rfl⟩
  obtain ⟨j2, h2⟩ : ∃ b, (j == 2) = b := ⟨_, rfl⟩
  obtain ⟨k5, h5⟩ : ∃ b, (k == 5) = b := ⟨_, rfl⟩
  obtain ⟨k6, h6⟩ : ∃ b, (k == 6) = b := ⟨_, rfl⟩
  obtain ⟨k7, h7⟩ : ∃ b, (k == 7) = b := ⟨_, rfl⟩
  obtain ⟨k11, h11⟩ : ∃ b, (k == 11) = b := ⟨_, rfl⟩
  have hl : decide (binI k j = 1) = if (k5 || k6 || k7) = true then j1 else if k11 = true then j2 else false := by
    unfold binI
    rw [← h1, ← h2, ← h5, ← h6, ← h7, ← h11]
    simp only [Bool.or_eq_true, beq_iff_eq]
    by_cases e5 : k = 5
    · simp [e5]; congr 1
    by_cases e6 : k = 6
    · simp [e6]; congr 1
    by_cases e7 : k = 7
    · simp [e7]; congr 1
    by_cases e11 : k = 11
    · simp [e11]; congr 1
    simp [e5, e6, e7, e11]
  have HL := Lib.hid hl
  clear hl
  rw [HL.out]
  clear HL
  cases j1 <;> cases j2 <;> cases k5 <;> cases k6 <;> cases k7 <;> cases k11 <;>
  · go_enter Tryd.func63, Tryd.ntmps63
    go_wp2
    go_ret
    exact ⟨rfl, rfl⟩
end Go.Proofs.YtobaeeobfcffoaaDoor

/-! What a walk of the builder keeps: its two cells, what the replacer keeps in memory, which blocks are written. -/
namespace Go.Proofs.YtobaeeobfcffoaaDoor
open Go.RowKit

/-- The same world but for blocks that are neither old nor of the walk's own. -/
def Still (Old : Nat → Prop) (M : World → Nat → Prop) (w w' : World) : Prop :=
  w.heap.size ≤ w'.heap.size ∧ ∀ k, Old k ∨ M w k → k < w.heap.size → w'.heap[k]? = w.heap[k]?
structure Bld (pb : Nat) (Old : Nat → Prop) (Inv : Nat → Nat → Nat → Int → World → Prop) (M : World → Nat → Prop) : Prop where
  n_ : ∀ {d n f e w}, Inv d n f e w → w.cell? ⟨pb, 0, none⟩ = some (.int .i64 n)
  e_ : ∀ {d n f e w}, Inv d n f e w → w.cell? ⟨pb, 1, none⟩ = some (.int .i64 e)
  fz : ∀ {d n f e w}, Inv d n f e w → w.frozen? ⟨pb, 0, none⟩ = false ∧ w.frozen? ⟨pb, 1, none⟩ = false
  lt : ∀ {d n f e w k}, Inv d n f e w → M w k → k < w.heap.size ∧ ¬ Old k
  old : ∀ {d n f e w k}, Inv d n f e w → Old k → k < w.heap.size
  mb : ∀ {d n f e w}, Inv d n f e w → M w pb
  mono : ∀ {d d' n f e w}, Inv d n f e w → d' ≤ d → Inv d' n f e w
  still : ∀ {d n f e w w'}, Inv d n f e w → Still Old M w w' → Inv d n f e w' ∧ ∀ k, M w' k → M w k
  setN : ∀ {d n n' f e w}, Inv d n f e w → Inv d n' f e (w.setCell ⟨pb, 0, none⟩ (.int .i64 n')) ∧ ∀ k, M (w.setCell ⟨pb, 0, none⟩ (.int .i64 n')) k → M w k
  setE : ∀ {d n f e e' w}, Inv d n f e w → Inv d n f e' (w.setCell ⟨pb, 1, none⟩ (.int .i64 e')) ∧ ∀ k, M (w.setCell ⟨pb, 1, none⟩ (.int .i64 e')) k → M w k
section
variable {pb : Nat} {Old : Nat → Prop} {Inv : Nat → Nat → Nat → Int → World → Prop} {M : World → Nat → Prop}
theorem Still.of {w w' : World} (h : Below w.heap.size w w') : Still Old M w w' := ⟨h.size, fun k _ hk => h.block k hk⟩
/-- New memory alone. -/
theorem Kp.new (hB : Bld pb Old Inv M) {d n f : Nat} {e : Int} {w0 w w' : World} (h : Kp M w0 w) (hi : Inv d n f e w) (hb : Below w.heap.size w w') : Kp M w0 w' ∧ Inv d n f e w' := by
  obtain ⟨h1, h2⟩ := hB.still hi (Still.of hb)
  exact ⟨h.trans ⟨hb.os, hb.tape, hb.output, hb.size, fun k hk _ => hb.block k hk, fun k hk => .inl (h2 k hk)⟩, h1⟩
/-- A write to a block of the call's own. -/
theorem Kp.own (hB : Bld pb Old Inv M) {d n f : Nat} {e : Int} {w0 w : World} (h : Kp M w0 w) (hi : Inv d n f e w) {b : Nat} (hb : w0.heap.size ≤ b) (hm : ¬ M w b) (ho : ¬ Old b) (j : Nat) (v : Value) : Kp M w0 (w.setCell ⟨b, j, none⟩ v) ∧ Inv d n f e (w.setCell ⟨b, j, none⟩ v) := by
  have hs : Still Old M w (w.setCell ⟨b, j, none⟩ v) := ⟨by simp [World.setCell], fun k hk _ => Below.heap_setCell _ _ _ _ (by rintro rfl; exact hk.elim ho hm)⟩
  obtain ⟨h1, h2⟩ := hB.still hi hs
  refine ⟨⟨h.os, h.tape, h.output, by have := hs.1; have := h.size; omega, fun k hk hk2 => (Below.heap_setCell _ _ _ _ (by show k ≠ b; omega)).trans (h.block k hk hk2), fun k hk => h.mu k (h2 k hk)⟩, h1⟩
theorem Kp.setN (hB : Bld pb Old Inv M) {d n n' f : Nat} {e : Int} {w0 w : World} (h : Kp M w0 w) (hi : Inv d n f e w) : Kp M w0 (w.setCell ⟨pb, 0, none⟩ (.int .i64 n')) ∧ Inv d n' f e (w.setCell ⟨pb, 0, none⟩ (.int .i64 n')) := by
  obtain ⟨h1, h2⟩ := hB.setN (n' := n') hi
  exact ⟨h.trans ⟨rfl, rfl, rfl, by simp [World.setCell], fun k _ hk => Below.heap_setCell _ _ _ _ (by rintro rfl; exact hk (hB.mb hi)), fun k hk => .inl (h2 k hk)⟩, h1⟩
theorem Kp.setE (hB : Bld pb Old Inv M) {d n f : Nat} {e e' : Int} {w0 w : World} (h : Kp M w0 w) (hi : Inv d n f e w) : Kp M w0 (w.setCell ⟨pb, 1, none⟩ (.int .i64 e')) ∧ Inv d n f e' (w.setCell ⟨pb, 1, none⟩ (.int .i64 e')) := by
  obtain ⟨h1, h2⟩ := hB.setE (e' := e') hi
  exact ⟨h.trans ⟨rfl, rfl, rfl, by simp [World.setCell], fun k _ hk => Below.heap_setCell _ _ _ _ (by rintro rfl; exact hk (hB.mb hi)), fun k hk => .inl (h2 k hk)⟩, h1⟩
theorem setE_er (hB : Bld pb Old Inv M) {d n f : Nat} {e x : Int} {w0 w : World} (h : Kp M w0 w) (hi : Inv d n f e w) : Kp M w0 (if e = 0 then w.setCell ⟨pb, 1, none⟩ (.int .i64 x) else w) ∧ Inv d n f (er e x) (if e = 0 then w.setCell ⟨pb, 1, none⟩ (.int .i64 x) else w) := by
  unfold er
  by_cases he : e = 0
  · rw [if_pos he, if_pos he]; exact h.setE hB hi
  · rw [if_neg he, if_neg he]; exact ⟨h, hi⟩
/-- Blocks of a result: old ones, or new ones that are not written. -/
def Rs (Old : Nat → Prop) (M : World → Nat → Prop) (w w' : World) : Nat → Prop := fun k => (Old k ∨ w.heap.size ≤ k) ∧ ¬ M w' k
/-- How a walk of the builder ends: with a term and the cells counted up, or by the panic. -/
def Out (Old : Nat → Prop) (Inv : Nat → Nat → Nat → Int → World → Prop) (M : World → Nat → Prop) (d n f : Nat) (e0 : Int) (x : Ou) (val : Value → Value) (w : World) (e : Ending) (w' : World) : Prop :=
  Kp M w w' ∧ ((n + x.n ≤ 4096 ∧ ∃ v, e = .returned (val v) ∧ TmP w' (Rs Old M w w') x.t v ∧ Inv (d + 1) (n + x.n) (f + x.f) (er e0 x.e) w') ∨ (4096 < n + x.n ∧ e = .panicked outCh))
theorem Rs.next {w0 w w' : World} {t : Tm} {v : Value} (h : TmP w (Rs Old M w0 w) t v) (hk : Kp M w w') : TmP w' (Rs Old M w0 w') t v := by
  have h1 : TmP w (fun k => Rs Old M w0 w k ∧ k < w.heap.size) t v := TmP.mono (fun k hm hk => ⟨hm, hk⟩) t v h
  have h2 : TmP w' (fun k => Rs Old M w0 w k ∧ k < w.heap.size) t v := TmP.keep (fun p hp => hk.cell hp.2 hp.1.2) t v h1
  exact TmP.mono (fun k hk' _ => ⟨hk'.1.1, hk.out hk'.2 hk'.1.2⟩) t v h2
theorem Rs.less {w0 w1 w : World} {t : Tm} {v : Value} (h : TmP w (Rs Old M w1 w) t v) (hs : w0.heap.size ≤ w1.heap.size) : TmP w (Rs Old M w0 w) t v :=
  TmP.mono (fun _ hk _ => ⟨hk.1.elim .inl (fun h => .inr (Nat.le_trans hs h)), hk.2⟩) t v h
end
end Go.Proofs.YtobaeeobfcffoaaDoor

/-! moved. -/
namespace Go.Proofs.YtobaeeobfcffoaaDoor
open Go.RowKit
section
variable {pb : Nat} {Old : Nat → Prop} {Inv : Nat → Nat → Nat → Int → World → Prop} {M : World → Nat → Prop}
/-- A block of the call's own holds these cells, and is not written by what it calls. -/
structure Bx (M : World → Nat → Prop) (Old : Nat → Prop) (b : Nat) (c0 c1 c2 c3 c4 : Value) (w : World) : Prop where
  x0 : w.cell? ⟨b, 0, none⟩ = some c0
  x1 : w.cell? ⟨b, 1, none⟩ = some c1
  x2 : w.cell? ⟨b, 2, none⟩ = some c2
  x3 : w.cell? ⟨b, 3, none⟩ = some c3
  x4 : w.cell? ⟨b, 4, none⟩ = some c4
  f0 : w.frozen? ⟨b, 0, none⟩ = false
  f1 : w.frozen? ⟨b, 1, none⟩ = false
  f2 : w.frozen? ⟨b, 2, none⟩ = false
  f3 : w.frozen? ⟨b, 3, none⟩ = false
  f4 : w.frozen? ⟨b, 4, none⟩ = false
  nm : ¬ M w b
  no : ¬ Old b
theorem Bx.lt {b : Nat} {c0 c1 c2 c3 c4 : Value} {w : World} (h : Bx M Old b c0 c1 c2 c3 c4 w) : b < w.heap.size := World.block_lt_of_cell? w _ h.x0
theorem Bx.next {b : Nat} {c0 c1 c2 c3 c4 : Value} {w w' : World} (h : Bx M Old b c0 c1 c2 c3 c4 w) (hk : Kp M w w') : Bx M Old b c0 c1 c2 c3 c4 w' :=
  ⟨hk.cell' h.x0 h.nm, hk.cell' h.x1 h.nm, hk.cell' h.x2 h.nm, hk.cell' h.x3 h.nm, hk.cell' h.x4 h.nm, (hk.frozen (p := ⟨b, 0, none⟩) h.lt h.nm).trans h.f0, (hk.frozen (p := ⟨b, 1, none⟩) h.lt h.nm).trans h.f1, (hk.frozen (p := ⟨b, 2, none⟩) h.lt h.nm).trans h.f2, (hk.frozen (p := ⟨b, 3, none⟩) h.lt h.nm).trans h.f3, (hk.frozen (p := ⟨b, 4, none⟩) h.lt h.nm).trans h.f4, hk.out h.lt h.nm, h.no⟩
theorem Bx.new (hB : Bld pb Old Inv M) {d n f : Nat} {e : Int} {w : World} (hi : Inv d n f e w) (c0 c1 c2 c3 c4 : Value) : Bx M Old w.heap.size c0 c1 c2 c3 c4 (w.alloc (.cells #[c0, c1, c2, c3, c4] 25)) := by
  have ho : ∀ k, Old k → k < w.heap.size := fun _ => hB.old hi
  have hn := World.alloc_heap_new w (.cells #[c0, c1, c2, c3, c4] 25)
  have hk := Kp.new hB (Kp.refl M w) hi ((Below.refl _ _).alloc (Nat.le_refl _) (.cells #[c0, c1, c2, c3, c4] 25))
  refine ⟨cell_of_row _ _ 0 _ _ _ hn, cell_of_row _ _ 1 _ _ _ hn, cell_of_row _ _ 2 _ _ _ hn, cell_of_row _ _ 3 _ _ _ hn, cell_of_row _ _ 4 _ _ _ hn, by go_simp, by go_simp, by go_simp, by go_simp, by go_simp, fun hm => ?_, fun h => by have := ho _ h; omega⟩
  have h1 := (hB.still hi (Still.of (Old := Old) (M := M) ((Below.refl _ w).alloc (Nat.le_refl _) (.cells #[c0, c1, c2, c3, c4] 25)))).2 _ hm
  have := (hB.lt hi h1).1
  omega
theorem set_other {w : World} {b : Nat} {j i : Nat} {v c : Value} (h : w.cell? ⟨b, i, none⟩ = some c) (hj : j ≠ i) : (w.setCell ⟨b, j, none⟩ v).cell? ⟨b, i, none⟩ = some c :=
  (World.cell?_setCell_other _ _ _ _ (by intro e; injection e with _ e _; first | exact hj e.symm | exact hj e)).trans h
theorem set_same {w : World} {b : Nat} {j : Nat} {v c : Value} (h : w.cell? ⟨b, j, none⟩ = some c) : (w.setCell ⟨b, j, none⟩ v).cell? ⟨b, j, none⟩ = some v := World.cell?_setCell_same _ _ _ h
/-- One cell of an own block is written. -/
theorem Kp.put (hB : Bld pb Old Inv M) {d n f : Nat} {e : Int} {w0 w : World} {b : Nat} (h : Kp M w0 w ∧ Inv d n f e w ∧ ¬ M w b) (hb : w0.heap.size ≤ b) (ho : ¬ Old b) (j : Nat) (v : Value) : Kp M w0 (w.setCell ⟨b, j, none⟩ v) ∧ Inv d n f e (w.setCell ⟨b, j, none⟩ v) ∧ ¬ M (w.setCell ⟨b, j, none⟩ v) b := by
  obtain ⟨hk, hi, hm⟩ := h
  have hs : Still Old M w (w.setCell ⟨b, j, none⟩ v) := ⟨by simp [World.setCell], fun k hk _ => Below.heap_setCell _ _ _ _ (by rintro rfl; exact hk.elim ho hm)⟩
  have h1 := Kp.own hB hk hi hb hm ho j v
  exact ⟨h1.1, h1.2, fun h => hm ((hB.still hi hs).2 _ h)⟩
theorem Bx.put (hB : Bld pb Old Inv M) {d n f : Nat} {e : Int} {w0 w : World} {b : Nat} {c0 c1 c2 c3 c4 : Value} (h : Bx M Old b c0 c1 c2 c3 c4 w) (hk : Kp M w0 w ∧ Inv d n f e w) (hb : w0.heap.size ≤ b) (v0 v1 v2 v3 v4 : Value) :
    (Kp M w0 (((((w.setCell ⟨b, 0, none⟩ v0).setCell ⟨b, 1, none⟩ v1).setCell ⟨b, 2, none⟩ v2).setCell ⟨b, 3, none⟩ v3).setCell ⟨b, 4, none⟩ v4) ∧ Inv d n f e (((((w.setCell ⟨b, 0, none⟩ v0).setCell ⟨b, 1, none⟩ v1).setCell ⟨b, 2, none⟩ v2).setCell ⟨b, 3, none⟩ v3).setCell ⟨b, 4, none⟩ v4)) ∧ Bx M Old b v0 v1 v2 v3 v4 (((((w.setCell ⟨b, 0, none⟩ v0).setCell ⟨b, 1, none⟩ v1).setCell ⟨b, 2, none⟩ v2).setCell ⟨b, 3, none⟩ v3).setCell ⟨b, 4, none⟩ v4) := by
  have h5 := Kp.put hB (Kp.put hB (Kp.put hB (Kp.put hB (Kp.put hB ⟨hk.1, hk.2, h.nm⟩ hb h.no 0 v0) hb h.no 1 v1) hb h.no 2 v2) hb h.no 3 v3) hb h.no 4 v4
  have hf : ∀ (i : Nat) (w : World) (j : Nat) (v : Value), w.frozen? ⟨b, i, none⟩ = false → (w.setCell ⟨b, j, none⟩ v).frozen? ⟨b, i, none⟩ = false := fun i w j v h => by go_simp
  refine ⟨⟨h5.1, h5.2.1⟩, ?_, ?_, ?_, ?_, ?_, ?_, ?_, ?_, ?_, ?_, h5.2.2, h.no⟩
  · exact set_other (set_other (set_other (set_other (set_same h.x0) (by decide)) (by decide)) (by decide)) (by decide)
  · exact set_other (set_other (set_other (set_same (set_other h.x1 (by decide))) (by decide)) (by decide)) (by decide)
  · exact set_other (set_other (set_same (set_other (set_other h.x2 (by decide)) (by decide))) (by decide)) (by decide)
  · exact set_other (set_same (set_other (set_other (set_other h.x3 (by decide)) (by decide)) (by decide))) (by decide)
  · exact set_same (set_other (set_other (set_other (set_other h.x4 (by decide)) (by decide)) (by decide)) (by decide))
  · exact hf _ _ _ _ (hf _ _ _ _ (hf _ _ _ _ (hf _ _ _ _ (hf _ _ _ _ h.f0))))
  · exact hf _ _ _ _ (hf _ _ _ _ (hf _ _ _ _ (hf _ _ _ _ (hf _ _ _ _ h.f1))))
  · exact hf _ _ _ _ (hf _ _ _ _ (hf _ _ _ _ (hf _ _ _ _ (hf _ _ _ _ h.f2))))
  · exact hf _ _ _ _ (hf _ _ _ _ (hf _ _ _ _ (hf _ _ _ _ (hf _ _ _ _ h.f3))))
  · exact hf _ _ _ _ (hf _ _ _ _ (hf _ _ _ _ (hf _ _ _ _ (hf _ _ _ _ h.f4))))
/-- What was read behind a call, read behind a write to a block that was there before the call. -/
theorem Bx.keepR (hB : Bld pb Old Inv M) {d n f : Nat} {e : Int} {b : Nat} {c0 c1 c2 c3 c4 : Value} {w0 w : World} (h : Bx M Old b c0 c1 c2 c3 c4 w) (hi : Inv d n f e w) (hb : b < w0.heap.size) {t : Tm} {v : Value} (ht : TmP w (Rs Old M w0 w) t v) (v0 v1 v2 v3 v4 : Value) :
    TmP (((((w.setCell ⟨b, 0, none⟩ v0).setCell ⟨b, 1, none⟩ v1).setCell ⟨b, 2, none⟩ v2).setCell ⟨b, 3, none⟩ v3).setCell ⟨b, 4, none⟩ v4) (Rs Old M w0 (((((w.setCell ⟨b, 0, none⟩ v0).setCell ⟨b, 1, none⟩ v1).setCell ⟨b, 2, none⟩ v2).setCell ⟨b, 3, none⟩ v3).setCell ⟨b, 4, none⟩ v4)) t v := by
  have hm : ∀ k, M (((((w.setCell ⟨b, 0, none⟩ v0).setCell ⟨b, 1, none⟩ v1).setCell ⟨b, 2, none⟩ v2).setCell ⟨b, 3, none⟩ v3).setCell ⟨b, 4, none⟩ v4) k → M w k := (hB.still hi ⟨by simp [World.setCell], fun k hk _ => by
    have hne : k ≠ b := by rintro rfl; exact hk.elim h.no h.nm
    rw [Below.heap_setCell _ _ _ _ hne, Below.heap_setCell _ _ _ _ hne, Below.heap_setCell _ _ _ _ hne, Below.heap_setCell _ _ _ _ hne, Below.heap_setCell _ _ _ _ hne]⟩).2
  have hk : ∀ p : Addr, Rs Old M w0 w p.block → (((((w.setCell ⟨b, 0, none⟩ v0).setCell ⟨b, 1, none⟩ v1).setCell ⟨b, 2, none⟩ v2).setCell ⟨b, 3, none⟩ v3).setCell ⟨b, 4, none⟩ v4).cell? p = w.cell? p := fun p hp => by
    have hne : p.block ≠ b := by
      rintro e
      rcases hp.1 with h1 | h1
      · exact h.no (e ▸ h1)
      · omega
    have ho : ∀ (w : World) (j : Nat) (v : Value), (w.setCell ⟨b, j, none⟩ v).cell? p = w.cell? p := fun w j v => World.cell?_setCell_other _ _ _ _ (by rintro rfl; exact hne rfl)
    rw [ho, ho, ho, ho, ho]
  exact TmP.mono (fun k hk _ => ⟨hk.1, fun h => hk.2 (hm k h)⟩) t v (TmP.keep hk t v ht)
theorem tmP_vr' (w : World) (S : Nat → Prop) (i : Int) (AL : Option Addr) (cl : Nat) (AK : Option Addr) (ck : Nat) : TmP w S (vr i) (.agg #[.int .i64 0, .int .i64 i, .string ⟨#[]⟩, .slice AL 0 cl, .slice AK 0 ck]) := by
  unfold vr
  rw [TmP]
  exact ⟨AL, cl, AK, ck, rfl, ⟨by simp, fun h => by simp at h⟩, by simp, fun h => by simp at h⟩
theorem tmP_vr (w : World) (S : Nat → Prop) (i : Int) : TmP w S (vr i) (.agg #[.int .i64 0, .int .i64 i, .string ⟨#[]⟩, .slice none 0 0, .slice none 0 0]) := by
  unfold vr
  rw [TmP]
  exact ⟨none, 0, none, 0, rfl, ⟨by simp, fun h => by simp at h⟩, by simp, fun h => by simp at h⟩

set_option maxRecDepth 100000 in
theorem moved_any (hB : Bld pb Old Inv M) {d n f : Nat} {e0 : Int} {w : World} (hi : Inv (d + 1) n f e0 w) (hn : n ≤ 4096) (i : Int) (hi0 : -1000000000000 ≤ i ∧ i ≤ 1000000000000) :
    Calls Tryd.prog 36 #[.pointer (some ⟨pb, 0, none⟩), .int .i64 i] w (Out Old Inv M d n f e0 ⟨1, 0, big i, vr i⟩ id w) := by
  have ho : ∀ k, Old k → k < w.heap.size := fun _ => hB.old hi
  have HK := Lib.hid (Kp.new hB (Kp.refl M w) hi ((Below.refl _ _).alloc (Nat.le_refl _) (.cells #[.int .i64 0, .int .i64 0, .string ⟨#[]⟩, .slice none 0 0, .slice none 0 0] 25)))
  have HX := Lib.hid (Bx.new hB hi (.int .i64 0) (.int .i64 0) (.string ⟨#[]⟩) (.slice none 0 0) (.slice none 0 0))
  have HB := Lib.hid hB
  clear hi hB ho
  by_cases hbig : 65535 < i
  · have h2 : decide (65535 < i) = true := by rw [decide_eq_true_eq]; omega
    go_enter Tryd.func36, Tryd.ntmps36
    go_wp2_with fail
    refine (fail_any pb e0 24 _ (HB.out.e_ HK.out.2) (HB.out.fz HK.out.2).2).mono ?_
    rintro e w1 ⟨rfl, hw1⟩
    have HK1 : Hid (Kp M w w1 ∧ Inv (d + 1) n f (er e0 24) w1) := Lib.hid (by rw [hw1]; exact setE_er HB.out HK.out.1 HK.out.2)
    have HX1 : Hid (Bx M Old w.heap.size (.int .i64 0) (.int .i64 0) (.string ⟨#[]⟩) (.slice none 0 0) (.slice none 0 0) w1) := Lib.hid (by
      rw [hw1]
      exact HX.out.next (setE_er HB.out (Kp.refl _ _) HK.out.2).1)
    clear hw1 HK HX
    go_wp2_with fail
    by_cases hc : n + 1 ≤ 4096
    · refine (count_ok pb n _ (HB.out.n_ HK1.out.2) (HB.out.fz HK1.out.2).1 hc).mono ?_
      rintro e w2 ⟨rfl, hw2⟩
      have HK2 : Hid (Kp M w w2 ∧ Inv (d + 1) (n + 1) f (er e0 24) w2) := Lib.hid (by rw [hw2]; exact HK1.out.1.setN HB.out HK1.out.2)
      have HX2 : Hid (Bx M Old w.heap.size (.int .i64 0) (.int .i64 0) (.string ⟨#[]⟩) (.slice none 0 0) (.slice none 0 0) w2) := Lib.hid (by
        rw [hw2]
        exact HX1.out.next ((Kp.refl _ _).setN HB.out HK1.out.2).1)
      clear hw2 HK1 HX1
      obtain ⟨x0, x1, x2, x3, x4, f0, f1, f2, f3, f4, _, _⟩ := HX2.out
      go_wp2_with fail
      have h3 := Bx.put HB.out HX2.out HK2.out (by omega) (.int .i64 0) (.int .i64 i) (.string ⟨#[]⟩) (.slice none 0 0) (.slice none 0 0)
      generalize (((((w2.setCell ⟨w.heap.size, 0, none⟩ (.int .i64 0)).setCell ⟨w.heap.size, 1, none⟩ (.int .i64 i)).setCell ⟨w.heap.size, 2, none⟩ (.string ⟨#[]⟩)).setCell ⟨w.heap.size, 3, none⟩ (.slice none 0 0)).setCell ⟨w.heap.size, 4, none⟩ (.slice none 0 0)) = w3 at h3 ⊢
      clear x0 x1 x2 x3 x4 f0 f1 f2 f3 f4
      obtain ⟨x0, x1, x2, x3, x4, f0, f1, f2, f3, f4, _, _⟩ := h3.2
      exact bodyPost_ret (v := .agg #[.int .i64 0, .int .i64 i, .string ⟨#[]⟩, .slice none 0 0, .slice none 0 0]) (by simp [results, Tryd.results36, go_sem, x0, x1, x2, x3, x4]) rfl ⟨h3.1.1, .inl ⟨hc, _, rfl, tmP_vr _ _ _, by rw [show big i = 24 by unfold big; rw [if_pos hbig]]; exact h3.1.2⟩⟩
    · refine (count_out pb n _ (HB.out.n_ HK1.out.2) (HB.out.fz HK1.out.2).1 (by omega) (by omega)).mono ?_
      rintro e w2 ⟨rfl, hw2⟩
      have HK2 : Hid (Kp M w w2) := Lib.hid (by rw [hw2]; exact (HK1.out.1.setN HB.out HK1.out.2).1)
      clear hw2 HK1 HX1
      go_wp2_with fail
      exact ⟨rfl, HK2.out, .inr ⟨by show 4096 < n + 1; omega, rfl⟩⟩
  · have h2 : decide (65535 < i) = false := by rw [decide_eq_false_iff_not]; exact hbig
    go_enter Tryd.func36, Tryd.ntmps36
    go_wp2_with fail
    by_cases hc : n + 1 ≤ 4096
    · refine (count_ok pb n _ (HB.out.n_ HK.out.2) (HB.out.fz HK.out.2).1 hc).mono ?_
      rintro e w2 ⟨rfl, hw2⟩
      have HK2 : Hid (Kp M w w2 ∧ Inv (d + 1) (n + 1) f e0 w2) := Lib.hid (by rw [hw2]; exact HK.out.1.setN HB.out HK.out.2)
      have HX2 : Hid (Bx M Old w.heap.size (.int .i64 0) (.int .i64 0) (.string ⟨#[]⟩) (.slice none 0 0) (.slice none 0 0) w2) := Lib.hid (by
        rw [hw2]
        exact HX.out.next ((Kp.refl _ _).setN HB.out HK.out.2).1)
      clear hw2 HK HX
      obtain ⟨x0, x1, x2, x3, x4, f0, f1, f2, f3, f4, _, _⟩ := HX2.out
      go_wp2_with fail
      have h3 := Bx.put HB.out HX2.out HK2.out (by omega) (.int .i64 0) (.int .i64 i) (.string ⟨#[]⟩) (.slice none 0 0) (.slice none 0 0)
      generalize (((((w2.setCell ⟨w.heap.size, 0, none⟩ (.int .i64 0)).setCell ⟨w.heap.size, 1, none⟩ (.int .i64 i)).setCell ⟨w.heap.size, 2, none⟩ (.string ⟨#[]⟩)).setCell ⟨w.heap.size, 3, none⟩ (.slice none 0 0)).setCell ⟨w.heap.size, 4, none⟩ (.slice none 0 0)) = w3 at h3 ⊢
      clear x0 x1 x2 x3 x4 f0 f1 f2 f3 f4
      obtain ⟨x0, x1, x2, x3, x4, f0, f1, f2, f3, f4, _, _⟩ := h3.2
      exact bodyPost_ret (v := .agg #[.int .i64 0, .int .i64 i, .string ⟨#[]⟩, .slice none 0 0, .slice none 0 0]) (by simp [results, Tryd.results36, go_sem, x0, x1, x2, x3, x4]) rfl ⟨h3.1.1, .inl ⟨hc, _, rfl, tmP_vr _ _ _, by rw [show big i = 0 by unfold big; rw [if_neg (by omega)], er_zero_right]; exact h3.1.2⟩⟩
    · refine (count_out pb n _ (HB.out.n_ HK.out.2) (HB.out.fz HK.out.2).1 (by omega) (by omega)).mono ?_
      rintro e w2 ⟨rfl, hw2⟩
      have HK2 : Hid (Kp M w w2) := Lib.hid (by rw [hw2]; exact (HK.out.1.setN HB.out HK.out.2).1)
      clear hw2 HK HX
      go_wp2_with fail
      exact ⟨rfl, HK2.out, .inr ⟨by show 4096 < n + 1; omega, rfl⟩⟩
end
end Go.Proofs.YtobaeeobfcffoaaDoor

/-! The closure of shifter. -/
namespace Go.Proofs.YtobaeeobfcffoaaDoor
open Go.RowKit
def zeroV : Value := .agg #[.int .i64 0, .int .i64 0, .string ⟨#[]⟩, .slice none 0 0, .slice none 0 0]
/-- What a replacer returns. -/
def RepPost (Old : Nat → Prop) (Inv : Nat → Nat → Nat → Int → World → Prop) (M : World → Nat → Prop) (d n f : Nat) (e0 : Int) (w : World) (e : Ending) (w' : World) : Option Ou → Prop
  | none => e = .returned (.tuple #[zeroV, .bool false]) ∧ Kp M w w' ∧ Inv (d + 1) n f e0 w'
  | some x => Out Old Inv M d n f e0 x (fun v => .tuple #[v, .bool true]) w e w'
section
variable {pb : Nat} {Old : Nat → Prop} {Inv : Nat → Nat → Nat → Int → World → Prop} {M : World → Nat → Prop}
set_option maxRecDepth 100000 in
set_option maxHeartbeats 1000000 in
theorem shifter1_any (hB : Bld pb Old Inv M) {pf pg : Nat} {fr by_ : Int} (hcap : ∀ {d n f e w}, Inv d n f e w → w.cell? ⟨pf, 0, none⟩ = some (.int .i64 fr) ∧ w.cell? ⟨pg, 0, none⟩ = some (.int .i64 by_)) {d n f : Nat} {e0 : Int} {w : World} (hi : Inv (d + 1) n f e0 w) (hn : n ≤ 4096)
    (k i : Int) (nm : ByteArray) (AL : Option Addr) (nl cl : Nat) (AK : Option Addr) (nk ck : Nat) (ls : List (Int × List (Int × Int))) (ks : List Tm) (hi0 : k = 0 → 0 ≤ i ∧ i ≤ 1000000000) (hd : d ≤ 1000000000) (hfr : 0 ≤ fr ∧ fr ≤ 9223372036854775807) (hby : -10000000000 ≤ by_ ∧ by_ ≤ 10000000000) :
    Calls Tryd.prog 56 #[.pointer (some ⟨pb, 0, none⟩), .agg #[.int .i64 k, .int .i64 i, .string nm, .slice AL nl cl, .slice AK nk ck], .int .i64 d, .pointer (some ⟨pf, 0, none⟩), .pointer (some ⟨pg, 0, none⟩)] w
      (fun e w' => RepPost Old Inv M d n f e0 w e w' (shR by_ fr (.mk k i nm ls ks) d)) := by
  have ho : ∀ k, Old k → k < w.heap.size := fun _ => hB.old hi
  have HK0 := Lib.hid (Kp.new hB (Kp.refl M w) hi ((Below.refl _ _).alloc (Nat.le_refl _) (.cells #[.int .i64 k, .int .i64 i, .string nm, .slice AL nl cl, .slice AK nk ck] 25)))
  have HX0 := Lib.hid (Bx.new hB hi (.int .i64 k) (.int .i64 i) (.string nm) (.slice AL nl cl) (.slice AK nk ck))
  have HK := Lib.hid (Kp.new hB HK0.out.1 HK0.out.2 ((Below.refl _ _).alloc (Nat.le_refl _) (.cells #[.int .i64 0, .int .i64 0, .string ⟨#[]⟩, .slice none 0 0, .slice none 0 0] 25)))
  have HX := Lib.hid (HX0.out.next (Kp.new hB (Kp.refl M _) HK0.out.2 ((Below.refl _ _).alloc (Nat.le_refl _) (.cells #[.int .i64 0, .int .i64 0, .string ⟨#[]⟩, .slice none 0 0, .slice none 0 0] 25))).1)
  have HY := Lib.hid (Bx.new hB HK0.out.2 (.int .i64 0) (.int .i64 0) (.string ⟨#[]⟩) (.slice none 0 0) (.slice none 0 0))
  simp only [World.size_alloc] at HY
  have HB := Lib.hid hB
  have HC := Lib.hid (show ∀ (d n f : Nat) (e : Int) (w : World), Inv d n f e w → w.cell? ⟨pf, 0, none⟩ = some (.int .i64 fr) ∧ w.cell? ⟨pg, 0, none⟩ = some (.int .i64 by_) from fun d n f e w h => hcap h)
  generalize hr : shR by_ fr (.mk k i nm ls ks) d = r
  have HRR := Lib.hid hr
  clear hr
  clear hi hB ho HK0 HX0 hcap
  go_enter Tryd.func56, Tryd.ntmps56
  go_wp2_with fail
  refine (sfree_any k i d _ _ _ _ (fun e => by have := hi0 e; omega) (by omega)).mono ?_
  rintro e w1 ⟨rfl, hw1⟩
  have hb1 := ((Below.refl _ ((w.alloc (.cells #[.int .i64 k, .int .i64 i, .string nm, .slice AL nl cl, .slice AK nk ck] 25)).alloc (.cells #[.int .i64 0, .int .i64 0, .string ⟨#[]⟩, .slice none 0 0, .slice none 0 0] 25))).alloc (Nat.le_refl _) (.cells #[.int .i64 k, .int .i64 i, .string nm, .slice AL nl cl, .slice AK nk ck] 25))
  rw [← hw1] at hb1
  have hk1 := Kp.new HB.out (Kp.refl M _) HK.out.2 hb1
  have HK1 : Hid (Kp M w w1 ∧ Inv (d + 1) n f e0 w1) := Lib.hid ⟨HK.out.1.trans hk1.1, hk1.2⟩
  have HX1 := Lib.hid (HX.out.next hk1.1)
  have HY1 := Lib.hid (HY.out.next hk1.1)
  clear hw1 hb1 hk1 HK HX HY
  obtain ⟨x0, x1, x2, x3, x4, _, _, _, _, _, _, _⟩ := HX1.out
  obtain ⟨y0, y1, y2, y3, y4, f0, f1, f2, f3, f4, _, _⟩ := HY1.out
  obtain ⟨g0, g1⟩ := HC.out _ _ _ _ _ HK1.out.2
  by_cases hfree : k = 0 ∧ (d : Int) ≤ i
  · rw [if_pos hfree, decide_eq_true hfree]
    obtain ⟨hk0, hdi⟩ := hfree
    have hi0 := hi0 hk0
    by_cases hff : fr ≤ i - d
    · have h1 : decide (i - d < fr) = false := by rw [decide_eq_false_iff_not]; omega
      have hr2 : r = some ⟨1, 0, er (if i - d - fr < -by_ then 24 else 0) (big (i + by_)), vr (i + by_)⟩ := by rw [← HRR.out]; simp only [shR]; rw [if_pos ⟨hk0, hdi, hff⟩]
      by_cases hlow : i - d - fr < -by_
      case' pos =>
        have h2 : decide (i - d - fr < -by_) = true := decide_eq_true hlow
        rw [if_pos hlow] at hr2
        have HR := Lib.hid hr2
        clear hr2
        go_wp2_with fail
        refine (fail_any pb e0 24 _ (HB.out.e_ HK1.out.2) (HB.out.fz HK1.out.2).2).mono ?_
        rintro e w2 ⟨rfl, hw2⟩
        have HK2 : Hid (Kp M w w2 ∧ Inv (d + 1) n f (er e0 24) w2) := Lib.hid (by rw [hw2]; exact setE_er HB.out HK1.out.1 HK1.out.2)
        have HX2 := Lib.hid (show Bx M Old w.heap.size (.int .i64 k) (.int .i64 i) (.string nm) (.slice AL nl cl) (.slice AK nk ck) w2 by rw [hw2]; exact HX1.out.next (setE_er HB.out (Kp.refl _ _) HK1.out.2).1)
        have HY2 := Lib.hid (show Bx M Old (w.heap.size + 1) (.int .i64 0) (.int .i64 0) (.string ⟨#[]⟩) (.slice none 0 0) (.slice none 0 0) w2 by rw [hw2]; exact HY1.out.next (setE_er HB.out (Kp.refl _ _) HK1.out.2).1)
        have HE := Lib.hid (show ∀ b, er e0 (er 24 b) = er (er e0 24) b from fun b => (er_assoc _ _ _).symm)
        generalize er e0 24 = e2 at HK2 HE
        clear hw2
      case' neg =>
        have h2 : decide (i - d - fr < -by_) = false := decide_eq_false hlow
        rw [if_neg hlow] at hr2
        have HR := Lib.hid hr2
        clear hr2
        have HK2 := HK1
        have HX2 := HX1
        have HY2 := HY1
        have HE := Lib.hid (show ∀ b, er e0 (er 0 b) = er e0 b from fun b => by rw [er_zero])
        go_wp2_with fail
      all_goals
        clear x0 x1 x2 x3 x4 y0 y1 y2 y3 y4 f0 f1 f2 f3 f4 g0 g1 HK1 HX1 HY1
        obtain ⟨x0, x1, x2, x3, x4, _, _, _, _, _, _, _⟩ := HX2.out
        obtain ⟨g0, g1⟩ := HC.out _ _ _ _ _ HK2.out.2
        try go_wp2_with fail
        refine (moved_any HB.out HK2.out.2 hn (i + by_) (by omega)).mono ?_
        rintro e w3 ⟨hkk, ⟨hnn, v, rfl, htm, hinv⟩ | ⟨hnn, rfl⟩⟩
        · have HK3 := Lib.hid (And.intro (HK2.out.1.trans hkk) hinv)
          have HY3 := Lib.hid (HY2.out.next hkk)
          unfold vr at htm
          rw [TmP] at htm
          obtain ⟨AL', cl', AK', ck', rfl, _, _, _⟩ := htm
          clear x0 x1 x2 x3 x4 g0 g1 hkk hinv HX2 HY2 HK2
          obtain ⟨y0, y1, y2, y3, y4, f0, f1, f2, f3, f4, _, _⟩ := HY3.out
          go_wp2_with fail
          have h4 := Bx.put HB.out HY3.out HK3.out (by omega) (.int .i64 0) (.int .i64 (i + by_)) (.string ⟨#[]⟩) (.slice AL' 0 cl') (.slice AK' 0 ck')
          generalize (((((w3.setCell ⟨w.heap.size + 1, 0, none⟩ (.int .i64 0)).setCell ⟨w.heap.size + 1, 1, none⟩ (.int .i64 (i + by_))).setCell ⟨w.heap.size + 1, 2, none⟩ (.string ⟨#[]⟩)).setCell ⟨w.heap.size + 1, 3, none⟩ (.slice AL' 0 cl')).setCell ⟨w.heap.size + 1, 4, none⟩ (.slice AK' 0 ck')) = w4 at h4 ⊢
          clear y0 y1 y2 y3 y4 f0 f1 f2 f3 f4
          obtain ⟨y0, y1, y2, y3, y4, _, _, _, _, _, _, _⟩ := h4.2
          exact bodyPost_ret (v := .tuple #[.agg #[.int .i64 0, .int .i64 (i + by_), .string ⟨#[]⟩, .slice AL' 0 cl', .slice AK' 0 ck'], .bool true]) (by simp [results, Tryd.results56, go_sem, y0, y1, y2, y3, y4]) rfl (by rw [HR.out]; exact ⟨h4.1.1, .inl ⟨hnn, _, rfl, tmP_vr' _ _ _ _ _ _ _, by have h5 := h4.1.2; rw [← HE.out] at h5; exact h5⟩⟩)
        · have HK3 := Lib.hid (HK2.out.1.trans hkk)
          clear x0 x1 x2 x3 x4 g0 g1 hkk HX2 HY2 HK2
          go_wp2_with fail
          exact ⟨rfl, by rw [HR.out]; exact ⟨HK3.out, .inr ⟨hnn, rfl⟩⟩⟩
    · have h1 : decide (i - d < fr) = true := by rw [decide_eq_true_eq]; omega
      have HR := Lib.hid (show r = none by rw [← HRR.out]; simp only [shR]; rw [if_neg (by omega)])
      go_wp2_with fail
      have h4 := Bx.put HB.out HY1.out HK1.out (by omega) (.int .i64 0) (.int .i64 0) (.string ⟨#[]⟩) (.slice none 0 0) (.slice none 0 0)
      generalize (((((w1.setCell ⟨w.heap.size + 1, 0, none⟩ (.int .i64 0)).setCell ⟨w.heap.size + 1, 1, none⟩ (.int .i64 0)).setCell ⟨w.heap.size + 1, 2, none⟩ (.string ⟨#[]⟩)).setCell ⟨w.heap.size + 1, 3, none⟩ (.slice none 0 0)).setCell ⟨w.heap.size + 1, 4, none⟩ (.slice none 0 0)) = w4 at h4 ⊢
      clear y0 y1 y2 y3 y4 f0 f1 f2 f3 f4
      obtain ⟨y0, y1, y2, y3, y4, _, _, _, _, _, _, _⟩ := h4.2
      exact bodyPost_ret (v := .tuple #[.agg #[.int .i64 0, .int .i64 0, .string ⟨#[]⟩, .slice none 0 0, .slice none 0 0], .bool false]) (by simp [results, Tryd.results56, go_sem, y0, y1, y2, y3, y4]) rfl (by rw [HR.out]; exact ⟨rfl, h4.1.1, h4.1.2⟩)
  · rw [if_neg hfree, decide_eq_false hfree]
    have HR := Lib.hid (show r = none by rw [← HRR.out]; simp only [shR]; rw [if_neg (fun e => hfree ⟨e.1, e.2.1⟩)])
    go_wp2_with fail
    have h4 := Bx.put HB.out HY1.out HK1.out (by omega) (.int .i64 0) (.int .i64 0) (.string ⟨#[]⟩) (.slice none 0 0) (.slice none 0 0)
    generalize (((((w1.setCell ⟨w.heap.size + 1, 0, none⟩ (.int .i64 0)).setCell ⟨w.heap.size + 1, 1, none⟩ (.int .i64 0)).setCell ⟨w.heap.size + 1, 2, none⟩ (.string ⟨#[]⟩)).setCell ⟨w.heap.size + 1, 3, none⟩ (.slice none 0 0)).setCell ⟨w.heap.size + 1, 4, none⟩ (.slice none 0 0)) = w4 at h4 ⊢
    clear y0 y1 y2 y3 y4 f0 f1 f2 f3 f4
    obtain ⟨y0, y1, y2, y3, y4, _, _, _, _, _, _, _⟩ := h4.2
    exact bodyPost_ret (v := .tuple #[.agg #[.int .i64 0, .int .i64 0, .string ⟨#[]⟩, .slice none 0 0, .slice none 0 0], .bool false]) (by simp [results, Tryd.results56, go_sem, y0, y1, y2, y3, y4]) rfl (by rw [HR.out]; exact ⟨rfl, h4.1.1, h4.1.2⟩)
end
end Go.Proofs.YtobaeeobfcffoaaDoor
