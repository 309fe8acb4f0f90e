/- Words on memory: a term, its levels, its kids. -/
import Derived.Test.YtobaeeobfcffoaaDoorW
import Derived.RangeFuncBox
import Derived.RangeFuncLeaves
import Derived.RangeFuncNested
import Derived.Shelf.Abstract
import Derived.OwnWalkIn
import Derived.TacticsInMore
import Derived.LoopNIn
import Derived.LoopIn
import Derived.Sort.QuietIn
import Derived.BigRegionIn
/-! Words on memory: a term, its levels, its kids. -/
namespace Go.Proofs.YtobaeeobfcffoaaDoor
open Go.RowKit

/-- A term as a tree. A level: its constant and its variables. -/
inductive Tm where
  | mk (kind index : Int) (name : ByteArray) (lvs : List (Int × List (Int × Int))) (kids : List Tm)
/-- The slice of levels at A reads as ls. -/
def LvsA (w : World) (B : Nat) (A : Option Addr) (ls : List (Int × List (Int × Int))) : Prop :=
  ls.length * 32 ≤ 140737488355328 ∧ (0 < ls.length → ∃ b off, A = some ⟨b, off, none⟩ ∧ b < B ∧
    ∀ j c vs, ls[j]? = some (c, vs) → w.cell? ⟨b, off + j * 2, none⟩ = some (.int .i64 c) ∧ ∃ A' cap, w.cell? ⟨b, off + j * 2 + 1, none⟩ = some (.slice A' vs.length cap) ∧ VA w B A' vs)
mutual
/-- The value v reads as the term. -/
def TmV (w : World) (B : Nat) : Tm → Value → Prop
  | .mk k i nm ls ks, v => ∃ AL cl AK ck, v = .agg #[.int .i64 k, .int .i64 i, .string nm, .slice AL ls.length cl, .slice AK ks.length ck] ∧ LvsA w B AL ls ∧ ks.length * 80 ≤ 140737488355328 ∧ (0 < ks.length → ∃ b off, AK = some ⟨b, off, none⟩ ∧ b < B ∧ KsV w B b off ks)
/-- From the cell off of the block b on the terms lie. -/
def KsV (w : World) (B : Nat) (b off : Nat) : List Tm → Prop
  | [] => True
  | t :: r => (∃ c0 c1 c2 c3 c4, w.cell? ⟨b, off, none⟩ = some c0 ∧ w.cell? ⟨b, off + 1, none⟩ = some c1 ∧ w.cell? ⟨b, off + 2, none⟩ = some c2 ∧ w.cell? ⟨b, off + 3, none⟩ = some c3 ∧ w.cell? ⟨b, off + 4, none⟩ = some c4 ∧ TmV w B t (.agg #[c0, c1, c2, c3, c4])) ∧ KsV w B b (off + 5) r
end
mutual
/-- The number of nodes. -/
def szT : Tm → Nat
  | .mk _ _ _ _ ks => 1 + szL ks
def szL : List Tm → Nat
  | [] => 0
  | t :: r => szT t + szL r
end
mutual
/-- The depth. -/
def dpT : Tm → Nat
  | .mk _ _ _ _ ks => dpL ks + 1
def dpL : List Tm → Nat
  | [] => 0
  | t :: r => max (dpT t) (dpL r)
end
def Tm.kids : Tm → List Tm
  | .mk _ _ _ _ ks => ks
theorem szT_pos (t : Tm) : 1 ≤ szT t := by cases t; simp [szT]
theorem szL_mem {ks : List Tm} {t : Tm} (h : t ∈ ks) : szT t ≤ szL ks := by
  induction ks with
  | nil => cases h
  | cons q r ih =>
    simp only [szL]
    rcases List.mem_cons.1 h with rfl | h
    · omega
    · have := ih h; omega
theorem szL_append (a b : List Tm) : szL (a ++ b) = szL a + szL b := by
  induction a with
  | nil => simp [szL]
  | cons q r ih => simp only [List.cons_append, szL, ih]; omega
theorem szL_take {ks : List Tm} {j : Nat} {t : Tm} (h : ks[j]? = some t) : szL (ks.take (j + 1)) = szL (ks.take j) + szT t := by
  rw [List.take_add_one, h, Option.toList_some, szL_append]
  simp [szL]
theorem szL_take_le (ks : List Tm) (j : Nat) : szL (ks.take j) ≤ szL ks := by
  have := szL_append (ks.take j) (ks.drop j)
  rw [List.take_append_drop] at this
  omega
theorem KsV.at_ {w : World} {B b : Nat} : ∀ {ks : List Tm} {off j : Nat} {t : Tm}, KsV w B b off ks → ks[j]? = some t → ∃ c0 c1 c2 c3 c4, w.cell? ⟨b, off + j * 5, none⟩ = some c0 ∧ w.cell? ⟨b, off + j * 5 + 1, none⟩ = some c1 ∧ w.cell? ⟨b, off + j * 5 + 2, none⟩ = some c2 ∧ w.cell? ⟨b, off + j * 5 + 3, none⟩ = some c3 ∧ w.cell? ⟨b, off + j * 5 + 4, none⟩ = some c4 ∧ TmV w B t (.agg #[c0, c1, c2, c3, c4]) := by
  intro ks
  induction ks with
  | nil => intro off j t _ h; simp at h
  | cons q r ih =>
    intro off j t hk h
    rw [KsV] at hk
    cases j with
    | zero =>
      simp at h
      subst h
      simpa using hk.1
    | succ j =>
      have := ih hk.2 (by simpa using h)
      rw [show off + 5 + j * 5 = off + (j + 1) * 5 by omega] at this
      exact this
mutual
theorem TmV.keep {w w' : World} {B : Nat} (hk : ∀ p : Addr, p.block < B → w'.cell? p = w.cell? p) : ∀ (t : Tm) (v : Value), TmV w B t v → TmV w' B t v
  | .mk k i nm ls ks, v, h => by
    rw [TmV] at h ⊢
    obtain ⟨AL, cl, AK, ck, rfl, hl, hz, hks⟩ := h
    refine ⟨AL, cl, AK, ck, rfl, ⟨hl.1, fun hn => ?_⟩, hz, fun hn => ?_⟩
    · obtain ⟨b, off, e, hb, hc⟩ := hl.2 hn
      refine ⟨b, off, e, hb, fun j c vs hj => ?_⟩
      obtain ⟨h1, A', cap, h2, h3⟩ := hc j c vs hj
      exact ⟨(hk _ hb).trans h1, A', cap, (hk _ hb).trans h2, h3.keep hk⟩
    · obtain ⟨b, off, e, hb, hc⟩ := hks hn
      exact ⟨b, off, e, hb, KsV.keep hk b hb ks off hc⟩
theorem KsV.keep {w w' : World} {B : Nat} (hk : ∀ p : Addr, p.block < B → w'.cell? p = w.cell? p) (b : Nat) (hb : b < B) : ∀ (ks : List Tm) (off : Nat), KsV w B b off ks → KsV w' B b off ks
  | [], _, _ => by rw [KsV]; trivial
  | t :: r, off, h => by
    rw [KsV] at h ⊢
    obtain ⟨⟨c0, c1, c2, c3, c4, h0, h1, h2, h3, h4, ht⟩, hr⟩ := h
    exact ⟨⟨c0, c1, c2, c3, c4, (hk _ hb).trans h0, (hk _ hb).trans h1, (hk _ hb).trans h2, (hk _ hb).trans h3, (hk _ hb).trans h4, TmV.keep hk t _ ht⟩, KsV.keep hk b hb r _ hr⟩
end
theorem TmV.below {w w' : World} {B B' : Nat} {t : Tm} {v : Value} (h : TmV w B t v) (hb : Below B' w w') (hB : B ≤ B') : TmV w' B t v := TmV.keep (fun _ hp => hb.cell (by omega)) t v h
end Go.Proofs.YtobaeeobfcffoaaDoor

/-! The reference: Size. -/
namespace Go.Proofs.YtobaeeobfcffoaaDoor
open Go.RowKit

/-- What a node's value spells, for a walk. -/
theorem TmV.open_ {w : World} {B : Nat} {t : Tm} {v : Value} (h : TmV w B t v) : ∃ (k i : Int) (nm : ByteArray) (AL : Option Addr) (nl cl : Nat) (AK : Option Addr) (ck : Nat), v = .agg #[.int .i64 k, .int .i64 i, .string nm, .slice AL nl cl, .slice AK t.kids.length ck] ∧ t.kids.length ≤ 1759218604441 ∧ (∀ j q, t.kids[j]? = some q → ∃ b off, AK = some ⟨b, off, none⟩ ∧ b < B ∧ ∃ k' i' nm' AL' nl' cl' AK' ck', w.cell? ⟨b, off + j * 5, none⟩ = some (.int .i64 k') ∧ w.cell? ⟨b, off + j * 5 + 1, none⟩ = some (.int .i64 i') ∧ w.cell? ⟨b, off + j * 5 + 2, none⟩ = some (.string nm') ∧ w.cell? ⟨b, off + j * 5 + 3, none⟩ = some (.slice AL' nl' cl') ∧ w.cell? ⟨b, off + j * 5 + 4, none⟩ = some (.slice AK' q.kids.length ck') ∧ TmV w B q (.agg #[.int .i64 k', .int .i64 i', .string nm', .slice AL' nl' cl', .slice AK' q.kids.length ck'])) := by
  cases t with
  | mk k i nm ls ks =>
    rw [TmV] at h
    obtain ⟨AL, cl, AK, ck, rfl, hl, hz, hks⟩ := h
    refine ⟨k, i, nm, AL, ls.length, cl, AK, ck, rfl, by simp only [Tm.kids]; omega, fun j q hj => ?_⟩
    have hlt : j < ks.length := (List.getElem?_eq_some_iff.1 hj).1
    obtain ⟨b, off, e, hb, hc⟩ := hks (by omega)
    obtain ⟨c0, c1, c2, c3, c4, h0, h1, h2, h3, h4, ht⟩ := hc.at_ hj
    refine ⟨b, off, e, hb, ?_⟩
    cases q with
    | mk k' i' nm' ls' ks' =>
      have ht' := ht
      rw [TmV] at ht
      obtain ⟨AL', cl', AK', ck', hv, _⟩ := ht
      simp only [Value.agg.injEq, Array.mk.injEq, List.cons.injEq, and_true] at hv
      obtain ⟨rfl, rfl, rfl, rfl, rfl⟩ := hv
      exact ⟨k', i', nm', AL', _, cl', AK', ck', h0, h1, h2, h3, h4, ht'⟩

theorem szT_kids (t : Tm) : szT t = 1 + szL t.kids := by cases t; simp [szT, Tm.kids]

set_option maxRecDepth 100000 in
set_option maxHeartbeats 2000000 in
theorem rsize_any : ∀ (n : Nat) (t : Tm) (v : Value) (B : Nat) (w : World), szT t ≤ n → n ≤ 1000000000 → TmV w B t v → B ≤ w.heap.size →
    Calls Tryd.prog 54 #[v] w fun e w' => e = .returned (.int .i64 (szT t : Int)) ∧ Below w.heap.size w w' := by
  intro n
  induction n with
  | zero => intro t v B w h; have := szT_pos t; omega
  | succ n ih =>
    intro t v B w hsz hn hv hB
    have hk := szT_kids t
    obtain ⟨k, i, nm, AL, nl, cl, AK, ck, rfl, hlen, hkid⟩ := hv.open_
    have IH := Lib.hid ih
    have HK := Lib.hid hkid
    have HV := Lib.hid hv
    clear ih hkid hv
    generalize hks : t.kids = ks at *
    have HSZ := Lib.hid (And.intro hsz hk)
    clear hsz hk
    go_enter Tryd.func54, Tryd.ntmps54
    go_wp2_with fail
    go_loopw [3, 4] (fun v3 v4 wr => ∃ j : Nat, v3 = .int .i64 (1 + (szL (ks.take j) : Int)) ∧ v4 = .int .i64 (j : Int) ∧ j ≤ ks.length ∧ Below w.heap.size w wr ∧ w.heap.size < wr.heap.size ∧ wr.cell? ⟨w.heap.size, 4, none⟩ = some (.slice AK ks.length ck)) (fun _ v4 _ => ks.length - (intOf v4).toNat)
    case atStart => exact ⟨0, rfl, rfl, Nat.zero_le _, (Below.refl _ _).alloc (Nat.le_refl _) _, by simp, by go_simp⟩
    case round =>
      obtain ⟨j, rfl, rfl, hj, hb, hlt, hc⟩ := hrel
      by_cases hjl : j < ks.length
      · obtain ⟨b, off, rfl, hbB, k', i', nm', AL', nl', cl', AK', ck', h0, h1, h2, h3, h4, hq⟩ := HK.out j ks[j] (List.getElem?_eq_getElem hjl)
        have hbw : b < w.heap.size := by omega
        replace h0 := (hb.cell (p := ⟨b, off + j * 5, none⟩) hbw).trans h0
        replace h1 := (hb.cell (p := ⟨b, off + j * 5 + 1, none⟩) hbw).trans h1
        replace h2 := (hb.cell (p := ⟨b, off + j * 5 + 2, none⟩) hbw).trans h2
        replace h3 := (hb.cell (p := ⟨b, off + j * 5 + 3, none⟩) hbw).trans h3
        replace h4 := (hb.cell (p := ⟨b, off + j * 5 + 4, none⟩) hbw).trans h4
        have hst := szL_take (List.getElem?_eq_getElem hjl)
        have hle := szL_take_le ks (j + 1)
        have hpos := szT_pos ks[j]
        have hqs : szT ks[j] ≤ n := by have := HSZ.out; have := szL_mem (List.getElem_mem hjl); omega
        have hbig : (szL (ks.take j) : Int) + szT ks[j] ≤ 1000000000 := by have := HSZ.out; omega
        have HST := Lib.hid hst
        have HB := Lib.hid hb
        clear hst hle hb
        go_wp2_with fail
        refine (IH.out ks[j] _ B wr hqs (by omega) (hq.below HB.out hB) (by have := HB.out.size; omega)).mono ?_
        rintro e w2 ⟨rfl, hb2⟩
        have hc2 := (hb2.cell (p := ⟨w.heap.size, 4, none⟩) hlt).trans hc
        have hlt2 := Nat.lt_of_lt_of_le hlt hb2.size
        have HB2 := Lib.hid (HB.out.trans (hb2.mono HB.out.size))
        clear hb2 h0 h1 h2 h3 h4 hq
        go_wp2
        go_roundw
        case rel => exact ⟨j + 1, by rw [HST.out]; congr 1; omega, by congr 1, by omega, HB2.out, hlt2, hc2⟩
        case measure => simp [intOf]; omega
      · have he : ks.take j = ks := List.take_of_length_le (by omega)
        have hd2 : decide ((j : Int) < (ks.length : Int)) = false := by rw [decide_eq_false_iff_not]; omega
        go_wp2
        go_ret
        exact ⟨ret_int (by rw [he, HSZ.out.2]; omega), hb⟩
end Go.Proofs.YtobaeeobfcffoaaDoor

/-! The reference: Depth. -/
namespace Go.Proofs.YtobaeeobfcffoaaDoor
open Go.RowKit

theorem dpT_kids (t : Tm) : dpT t = dpL t.kids + 1 := by cases t; simp [dpT, Tm.kids]
theorem dpL_append (a b : List Tm) : dpL (a ++ b) = max (dpL a) (dpL b) := by
  induction a with
  | nil => simp [dpL]
  | cons q r ih => simp only [List.cons_append, dpL, ih]; omega
theorem dpL_take {ks : List Tm} {j : Nat} {t : Tm} (h : ks[j]? = some t) : dpL (ks.take (j + 1)) = max (dpL (ks.take j)) (dpT t) := by
  rw [List.take_add_one, h, Option.toList_some, dpL_append]
  simp [dpL]
mutual
theorem dpT_le : ∀ t : Tm, dpT t ≤ szT t
  | .mk _ _ _ _ ks => by rw [dpT, szT]; have := dpL_le ks; omega
theorem dpL_le : ∀ ks : List Tm, dpL ks ≤ szL ks
  | [] => by rw [dpL, szL]; exact Nat.le_refl _
  | t :: r => by rw [dpL, szL]; have := dpT_le t; have := dpL_le r; omega
end

set_option maxRecDepth 100000 in
set_option maxHeartbeats 2000000 in
theorem rdepth_any : ∀ (n : Nat) (t : Tm) (v : Value) (B : Nat) (w : World), szT t ≤ n → n ≤ 1000000000 → TmV w B t v → B ≤ w.heap.size →
    Calls Tryd.prog 39 #[v] w fun e w' => e = .returned (.int .i64 (dpT t : Int)) ∧ Below w.heap.size w w' := by
  intro n
  induction n with
  | zero => intro t v B w h; have := szT_pos t; omega
  | succ n ih =>
    intro t v B w hsz hn hv hB
    have hk := szT_kids t
    obtain ⟨k, i, nm, AL, nl, cl, AK, ck, rfl, hlen, hkid⟩ := hv.open_
    have IH := Lib.hid ih
    have HK := Lib.hid hkid
    have HV := Lib.hid hv
    clear ih hkid hv
    generalize hks : t.kids = ks at *
    have HSZ := Lib.hid (And.intro hsz hk)
    clear hsz hk
    go_enter Tryd.func39, Tryd.ntmps39
    go_wp2_with fail
    go_loopw [3, 4] (fun v3 v4 wr => ∃ j : Nat, v3 = .int .i64 (dpL (ks.take j) : Int) ∧ v4 = .int .i64 (j : Int) ∧ j ≤ ks.length ∧ Below w.heap.size w wr ∧ w.heap.size < wr.heap.size ∧ wr.cell? ⟨w.heap.size, 4, none⟩ = some (.slice AK ks.length ck)) (fun _ v4 _ => ks.length - (intOf v4).toNat)
    case atStart => exact ⟨0, rfl, rfl, Nat.zero_le _, (Below.refl _ _).alloc (Nat.le_refl _) _, by simp, by go_simp⟩
    case round =>
      obtain ⟨j, rfl, rfl, hj, hb, hlt, hc⟩ := hrel
      by_cases hjl : j < ks.length
      · obtain ⟨b, off, rfl, hbB, k', i', nm', AL', nl', cl', AK', ck', h0, h1, h2, h3, h4, hq⟩ := HK.out j ks[j] (List.getElem?_eq_getElem hjl)
        have hbw : b < w.heap.size := by omega
        replace h0 := (hb.cell (p := ⟨b, off + j * 5, none⟩) hbw).trans h0
        replace h1 := (hb.cell (p := ⟨b, off + j * 5 + 1, none⟩) hbw).trans h1
        replace h2 := (hb.cell (p := ⟨b, off + j * 5 + 2, none⟩) hbw).trans h2
        replace h3 := (hb.cell (p := ⟨b, off + j * 5 + 3, none⟩) hbw).trans h3
        replace h4 := (hb.cell (p := ⟨b, off + j * 5 + 4, none⟩) hbw).trans h4
        have hst := dpL_take (List.getElem?_eq_getElem hjl)
        have hd1 := dpT_le ks[j]
        have hd2 := dpL_le (ks.take j)
        have hd3 := szL_take_le ks j
        have hle := szL_take_le ks (j + 1)
        have hpos := szT_pos ks[j]
        have hqs : szT ks[j] ≤ n := by have := HSZ.out; have := szL_mem (List.getElem_mem hjl); omega
        have hbig : (dpL (ks.take j) : Int) ≤ 1000000000 ∧ (dpT ks[j] : Int) ≤ 1000000000 := by have := HSZ.out; omega
        have HST := Lib.hid hst
        have HB := Lib.hid hb
        clear hst hle hb hd1 hd2 hd3
        go_wp2_with fail
        refine (IH.out ks[j] _ B wr hqs (by omega) (hq.below HB.out hB) (by have := HB.out.size; omega)).mono ?_
        rintro e w2 ⟨rfl, hb2⟩
        have hc2 := (hb2.cell (p := ⟨w.heap.size, 4, none⟩) hlt).trans hc
        have hlt2 := Nat.lt_of_lt_of_le hlt hb2.size
        have HB2 := Lib.hid (HB.out.trans (hb2.mono HB.out.size))
        clear hb2 h0 h1 h2 h3 h4 hq
        go_wp2
        go_roundw
        case rel => exact ⟨j + 1, by rw [HST.out]; congr 1; omega, by congr 1, by omega, HB2.out, hlt2, hc2⟩
        case measure => simp [intOf]; omega
      · have hdl := dpL_le ks
        have hdb : (dpL ks : Int) ≤ 1000000000 := by have := HSZ.out; omega
        have he : ks.take j = ks := List.take_of_length_le (by omega)
        have hd2 : decide ((j : Int) < (ks.length : Int)) = false := by rw [decide_eq_false_iff_not]; omega
        go_wp2
        go_ret
        exact ⟨ret_int (by rw [dpT_kids, hks]; omega), hb⟩
end Go.Proofs.YtobaeeobfcffoaaDoor

/-! The nodes of a term in preorder, as a list. -/
namespace Go.Proofs.YtobaeeobfcffoaaDoor
open Go.RowKit

/-- The kid of a kind that is below a binder; 0 if none is. -/
def bindK (k : Int) : Nat := if k = 5 ∨ k = 6 ∨ k = 7 then 1 else if k = 11 then 2 else 0
/-- A node at its place: below so many binders, so many nodes deep. -/
structure Nd where
  t : Tm
  b : Nat
  d : Nat
/-- The place of kid number i. -/
def kidNd (k : Int) (b d i : Nat) (q : Tm) : Nd := ⟨q, b + (if 0 < i ∧ i = bindK k then 1 else 0), d + 1⟩
def Tm.kind : Tm → Int
  | .mk k _ _ _ _ => k
/-- The kids from number i on, at their places. -/
def kidsNd (k : Int) (b d : Nat) : Nat → List Tm → List Nd
  | _, [] => []
  | i, q :: r => kidNd k b d i q :: kidsNd k b d (i + 1) r
mutual
def preT : Tm → Nat → Nat → List Nd
  | .mk k i nm ls ks, b, d => ⟨.mk k i nm ls ks, b, d⟩ :: preL ks k b d 0
def preL : List Tm → Int → Nat → Nat → Nat → List Nd
  | [], _, _, _, _ => []
  | q :: r, k, b, d, i => preT q (b + (if 0 < i ∧ i = bindK k then 1 else 0)) (d + 1) ++ preL r k b d (i + 1)
end
def Nd.pre (n : Nd) : List Nd := preT n.t n.b n.d
theorem preL_kids : ∀ (ks : List Tm) (k : Int) (b d i : Nat), preL ks k b d i = (kidsNd k b d i ks).flatMap Nd.pre
  | [], _, _, _, _ => by rw [preL, kidsNd]; rfl
  | q :: r, k, b, d, i => by rw [preL, kidsNd, List.flatMap_cons, preL_kids r k b d (i + 1)]; rfl
theorem pre_cons (n : Nd) : n.pre = n :: (kidsNd n.t.kind n.b n.d 0 n.t.kids).flatMap Nd.pre := by
  obtain ⟨t, b, d⟩ := n
  cases t with
  | mk k i nm ls ks =>
    show preT _ _ _ = _
    rw [preT, preL_kids]
    rfl
/-- What a stack still yields: its last node first. -/
def rest (st : List Nd) : List Nd := st.reverse.flatMap Nd.pre
theorem rest_push (st : List Nd) (n : Nd) : rest (st ++ [n]) = n :: rest (st ++ (kidsNd n.t.kind n.b n.d 0 n.t.kids).reverse) := by
  unfold rest
  rw [List.reverse_append, List.reverse_append, List.reverse_reverse, List.flatMap_append, List.flatMap_append, List.reverse_singleton, List.flatMap_cons, List.flatMap_nil, List.append_nil, pre_cons]
  rfl
theorem rest_nil : rest [] = [] := rfl
theorem kidsNd_length (k : Int) (b d : Nat) : ∀ (ks : List Tm) (i : Nat), (kidsNd k b d i ks).length = ks.length
  | [], _ => rfl
  | _ :: r, i => by rw [kidsNd, List.length_cons, List.length_cons, kidsNd_length k b d r (i + 1)]
theorem kidsNd_at (k : Int) (b d : Nat) : ∀ (ks : List Tm) (i j : Nat) (q : Tm), ks[j]? = some q → (kidsNd k b d i ks)[j]? = some (kidNd k b d (i + j) q)
  | [], _, _, _, h => by simp at h
  | p :: r, i, j, q, h => by
    cases j with
    | zero => simp at h; subst h; rfl
    | succ j =>
      rw [kidsNd, List.getElem?_cons_succ, kidsNd_at k b d r (i + 1) j q (by simpa using h), show i + 1 + j = i + (j + 1) by omega]
mutual
theorem preT_length : ∀ (t : Tm) (b d : Nat), (preT t b d).length = szT t
  | .mk k i nm ls ks, b, d => by rw [preT, List.length_cons, preL_length ks k b d 0, szT]; omega
theorem preL_length : ∀ (ks : List Tm) (k : Int) (b d i : Nat), (preL ks k b d i).length = szL ks
  | [], _, _, _, _ => by rw [preL, szL]; rfl
  | q :: r, k, b, d, i => by rw [preL, List.length_append, preT_length q _ _, preL_length r k b d (i + 1), szL]
end
/-- The greatest depth. -/
def maxD : Nat → List Nd → Nat
  | m, [] => m
  | m, n :: r => maxD (max m n.d) r
theorem maxD_append : ∀ (a b : List Nd) (m : Nat), maxD m (a ++ b) = maxD (maxD m a) b
  | [], _, _ => rfl
  | n :: r, b, m => by rw [List.cons_append, maxD, maxD, maxD_append r b]
mutual
theorem preT_depth : ∀ (t : Tm) (b d m : Nat), maxD m (preT t b d) = max m (d + dpT t - 1)
  | .mk k i nm ls ks, b, d, m => by
    rw [preT, maxD, preL_depth ks k b d 0 (max m d) (by omega), dpT]
    show max (max m d) _ = _
    omega
theorem preL_depth : ∀ (ks : List Tm) (k : Int) (b d i m : Nat), d ≤ m → maxD m (preL ks k b d i) = max m (d + dpL ks)
  | [], _, _, _, _, m, h => by rw [preL, dpL, maxD]; omega
  | q :: r, k, b, d, i, m, h => by
    rw [preL, maxD_append, preT_depth q _ _ m, preL_depth r k b d (i + 1) _ (by omega), dpL]
    omega
end
theorem pre_depth (t : Tm) : maxD 0 (preT t 0 1) = dpT t := by
  rw [preT_depth]
  omega
end Go.Proofs.YtobaeeobfcffoaaDoor

/-! nodes: the closure. -/
namespace Go.Proofs.YtobaeeobfcffoaaDoor
open Go.RowKit Go.Shelf
attribute [local go_sem] Oper.semAt_some

set_option maxRecDepth 100000 in
set_option maxHeartbeats 1000000 in
theorem nodes_in (n : Nat) (k i : Int) (nm : ByteArray) (AL : Option Addr) (nl cl : Nat) (AK : Option Addr) (nk ck : Nat) (w : World) :
    CallsIn Fence.wide n Tryd.prog 46 #[.agg #[.int .i64 k, .int .i64 i, .string nm, .slice AL nl cl, .slice AK nk ck]] w fun e w' => e = .returned (.func (.func 65) #[] #[.pointer (some ⟨w.heap.size, 0, none⟩)]) ∧ w' = w.alloc (.cells #[.int .i64 k, .int .i64 i, .string nm, .slice AL nl cl, .slice AK nk ck] 25) := by
  refine callsIn_of_wp Tryd.func46 rfl trivial ?_ rfl
  simp only [Tryd.ntmps46, List.size_toArray, List.length_cons, List.length_nil, Nat.reduceAdd, Nat.reduceSub, Array.replicate_succ, Array.replicate_zero, List.push_toArray, List.append_toArray, List.nil_append, List.cons_append]
  gi_wp2
  go_ret
  exact ⟨rfl, rfl⟩
end Go.Proofs.YtobaeeobfcffoaaDoor

/-! What a walk over a term that replaces nodes makes, as a function; two such walks that make the same. -/
namespace Go.Proofs.YtobaeeobfcffoaaDoor
open Go.RowKit

/-- What a walk makes of a term: nodes that are counted, occurrences that are found, the first error, the term. -/
structure Ou where
  n : Nat
  f : Nat
  e : Int
  t : Tm
structure OuL where
  n : Nat
  f : Nat
  e : Int
  ts : List Tm
/-- The first error. -/
def er (a b : Int) : Int := if a = 0 then b else a
theorem er_zero (b : Int) : er 0 b = b := by unfold er; rw [if_pos rfl]
theorem er_zero_right (a : Int) : er a 0 = a := by
  unfold er
  split <;> simp_all
theorem er_assoc (a b c : Int) : er (er a b) c = er a (er b c) := by
  by_cases h : a = 0
  · subst h; rw [er_zero, er_zero]
  · unfold er
    rw [if_neg h, if_neg h, if_neg h]
theorem er_eq_zero {a b : Int} : er a b = 0 ↔ a = 0 ∧ b = 0 := by
  unfold er
  split
  · rename_i h; exact ⟨fun e => ⟨h, e⟩, fun e => e.2⟩
  · rename_i h; exact ⟨fun e => absurd e h, fun e => absurd e.1 h⟩
/-- One binder more, or none. -/
def bbN (k : Int) (j : Nat) : Nat := if 0 < j ∧ j = bindK k then 1 else 0
mutual
def cpT (R : Tm → Nat → Option Ou) : Tm → Nat → Ou
  | .mk k i nm ls ks, d => match R (.mk k i nm ls ks) d with
    | some x => x
    | none => ⟨1 + (cpL R ks k d 0).n, (cpL R ks k d 0).f, (cpL R ks k d 0).e, .mk k i nm ls (cpL R ks k d 0).ts⟩
def cpL (R : Tm → Nat → Option Ou) : List Tm → Int → Nat → Nat → OuL
  | [], _, _, _ => ⟨0, 0, 0, []⟩
  | q :: r, k, d, j => ⟨(cpT R q (d + bbN k j)).n + (cpL R r k d (j + 1)).n, (cpT R q (d + bbN k j)).f + (cpL R r k d (j + 1)).f, er (cpT R q (d + bbN k j)).e (cpL R r k d (j + 1)).e, (cpT R q (d + bbN k j)).t :: (cpL R r k d (j + 1)).ts⟩
end
def comb (a b : OuL) : OuL := ⟨a.n + b.n, a.f + b.f, er a.e b.e, a.ts ++ b.ts⟩
def OuL.snoc (a : OuL) (x : Ou) : OuL := ⟨a.n + x.n, a.f + x.f, er a.e x.e, a.ts ++ [x.t]⟩
theorem comb_nil (b : OuL) : comb ⟨0, 0, 0, []⟩ b = b := by
  unfold comb
  rw [er_zero]
  simp
theorem comb_end (a : OuL) (R : Tm → Nat → Option Ou) (k : Int) (d j : Nat) : comb a (cpL R [] k d j) = a := by
  unfold comb
  rw [cpL, er_zero_right]
  simp
theorem comb_cons (a : OuL) (R : Tm → Nat → Option Ou) (q : Tm) (r : List Tm) (k : Int) (d j : Nat) : comb a (cpL R (q :: r) k d j) = comb (a.snoc (cpT R q (d + bbN k j))) (cpL R r k d (j + 1)) := by
  unfold comb OuL.snoc
  rw [cpL]
  simp only [er_assoc, Nat.add_assoc, List.append_assoc, List.singleton_append]
theorem comb_drop (a : OuL) (R : Tm → Nat → Option Ou) {ks : List Tm} (k : Int) (d : Nat) {j : Nat} (hj : j < ks.length) : comb a (cpL R (ks.drop j) k d j) = comb (a.snoc (cpT R ks[j] (d + bbN k j))) (cpL R (ks.drop (j + 1)) k d (j + 1)) := by
  rw [← List.getElem_cons_drop hj, comb_cons]
theorem cpT_some {R : Tm → Nat → Option Ou} {t : Tm} {d : Nat} {x : Ou} (h : R t d = some x) : cpT R t d = x := by
  cases t with
  | mk k i nm ls ks => rw [cpT, h]
theorem cpT_none {R : Tm → Nat → Option Ou} {k i : Int} {nm : ByteArray} {ls : List (Int × List (Int × Int))} {ks : List Tm} {d : Nat} (h : R (.mk k i nm ls ks) d = none) : cpT R (.mk k i nm ls ks) d = ⟨1 + (cpL R ks k d 0).n, (cpL R ks k d 0).f, (cpL R ks k d 0).e, .mk k i nm ls (cpL R ks k d 0).ts⟩ := by
  rw [cpT, h]
theorem cpL_length (R : Tm → Nat → Option Ou) : ∀ (ks : List Tm) (k : Int) (d j : Nat), (cpL R ks k d j).ts.length = ks.length
  | [], _, _, _ => by rw [cpL]
  | q :: r, k, d, j => by rw [cpL]; simp only [List.length_cons, cpL_length R r k d (j + 1)]
/-- Two outcomes that are one to whoever looks at a term only where there is no error. -/
def Ou.ag (x y : Ou) : Prop := x.n = y.n ∧ x.f = y.f ∧ x.e = y.e ∧ (x.e = 0 → x.t = y.t)
def OuL.ag (x y : OuL) : Prop := x.n = y.n ∧ x.f = y.f ∧ x.e = y.e ∧ (x.e = 0 → x.ts = y.ts)
/-- Two replacers agree at a node. -/
inductive AgO (t : Tm) : Option Ou → Option Ou → Prop
  | none : AgO t none none
  | some {x y : Ou} (h : x.ag y) : AgO t (some x) (some y)
  | left (h : t.kids = []) : AgO t none (some ⟨1, 0, 0, t⟩)
mutual
/-- A predicate of all nodes, with the number of binders above them. -/
def AllT (Q : Tm → Nat → Prop) : Tm → Nat → Prop
  | .mk k i nm ls ks, d => Q (.mk k i nm ls ks) d ∧ AllL Q ks k d 0
def AllL (Q : Tm → Nat → Prop) : List Tm → Int → Nat → Nat → Prop
  | [], _, _, _ => True
  | q :: r, k, d, j => AllT Q q (d + bbN k j) ∧ AllL Q r k d (j + 1)
end
theorem AllT.here {Q : Tm → Nat → Prop} {t : Tm} {d : Nat} (h : AllT Q t d) : Q t d := by
  cases t with
  | mk k i nm ls ks => rw [AllT] at h; exact h.1
theorem AllL.at_ {Q : Tm → Nat → Prop} : ∀ {ks : List Tm} {k : Int} {d s j : Nat} (_ : AllL Q ks k d s) (hj : j < ks.length), AllT Q ks[j] (d + bbN k (s + j))
  | q :: r, k, d, s, 0, h, hj => by rw [AllL] at h; exact h.1
  | q :: r, k, d, s, j + 1, h, hj => by
    rw [AllL] at h
    have := h.2.at_ (j := j) (by simpa using hj)
    rw [show s + 1 + j = s + (j + 1) by omega] at this
    exact this
theorem AllT.kid {Q : Tm → Nat → Prop} {k i : Int} {nm : ByteArray} {ls : List (Int × List (Int × Int))} {ks : List Tm} {d j : Nat} (h : AllT Q (.mk k i nm ls ks) d) (hj : j < ks.length) : AllT Q ks[j] (d + bbN k j) := by
  rw [AllT] at h
  simpa using h.2.at_ hj
mutual
theorem AllT.imp {Q Q' : Tm → Nat → Prop} (hq : ∀ t d, Q t d → Q' t d) : ∀ (t : Tm) (d : Nat), AllT Q t d → AllT Q' t d
  | .mk k i nm ls ks, d, h => by
    rw [AllT] at h ⊢
    exact ⟨hq _ _ h.1, AllL.imp hq ks k d 0 h.2⟩
theorem AllL.imp {Q Q' : Tm → Nat → Prop} (hq : ∀ t d, Q t d → Q' t d) : ∀ (ks : List Tm) (k : Int) (d j : Nat), AllL Q ks k d j → AllL Q' ks k d j
  | [], _, _, _, _ => by rw [AllL]; trivial
  | q :: r, k, d, j, h => by
    rw [AllL] at h ⊢
    exact ⟨AllT.imp hq q _ h.1, AllL.imp hq r k d (j + 1) h.2⟩
end
mutual
theorem cpT_ag {R R' : Tm → Nat → Option Ou} : ∀ (t : Tm) (d : Nat), AllT (fun t d => AgO t (R t d) (R' t d)) t d → (cpT R t d).ag (cpT R' t d)
  | .mk k i nm ls ks, d, h => by
    rw [AllT] at h
    have hk := cpL_ag ks k d 0 h.2
    have h1 := h.1
    generalize hr : R (.mk k i nm ls ks) d = a at h1
    generalize hr' : R' (.mk k i nm ls ks) d = b at h1
    cases h1 with
    | none =>
      rw [cpT_none hr, cpT_none hr']
      obtain ⟨a1, a2, a3, a4⟩ := hk
      exact ⟨by show 1 + _ = 1 + _; rw [a1], a2, a3, fun h => by show Tm.mk _ _ _ _ _ = _; rw [a4 h]⟩
    | some hx => rw [cpT_some hr, cpT_some hr']; exact hx
    | left hks =>
      rw [cpT_none hr, cpT_some hr']
      have : ks = [] := hks
      subst this
      rw [cpL]
      exact ⟨rfl, rfl, rfl, fun _ => rfl⟩
theorem cpL_ag {R R' : Tm → Nat → Option Ou} : ∀ (ks : List Tm) (k : Int) (d j : Nat), AllL (fun t d => AgO t (R t d) (R' t d)) ks k d j → (cpL R ks k d j).ag (cpL R' ks k d j)
  | [], _, _, _, _ => by rw [cpL, cpL]; exact ⟨rfl, rfl, rfl, fun _ => rfl⟩
  | q :: r, k, d, j, h => by
    rw [AllL] at h
    obtain ⟨a1, a2, a3, a4⟩ := cpT_ag q _ h.1
    obtain ⟨b1, b2, b3, b4⟩ := cpL_ag r k d (j + 1) h.2
    rw [cpL, cpL]
    refine ⟨by show _ + _ = _ + _; rw [a1, b1], by show _ + _ = _ + _; rw [a2, b2], by show er _ _ = er _ _; rw [a3, b3], fun h => ?_⟩
    have h' := er_eq_zero.1 h
    show _ :: _ = _ :: _
    rw [a4 h'.1, b4 h'.2]
end
end Go.Proofs.YtobaeeobfcffoaaDoor
