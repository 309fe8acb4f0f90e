/- The law's Nodes. -/
import Derived.Test.YtobaeeobfcffoaaDoorCpy
import Derived.IntWalk
/-! The law's Nodes. -/
namespace Go.Proofs.YtobaeeobfcffoaaDoor
open Go.RowKit

mutual
/-- What Nodes counts below a node. -/
def ndT : Tm → Int → Int
  | .mk _ _ _ _ ks, most => ndL ks most 0
/-- What Nodes counts from n on. -/
def ndL : List Tm → Int → Int → Int
  | [], _, n => n
  | t :: r, most, n => if most < n then n else ndL r most (n + (1 + ndT t (most - n)))
end
theorem ndT_kids (t : Tm) (most : Int) : ndT t most = ndL t.kids most 0 := by cases t; rw [ndT]; rfl
mutual
theorem ndT_le : ∀ (t : Tm) (most : Int), 0 ≤ ndT t most ∧ ndT t most + 1 ≤ (szT t : Int)
  | .mk _ _ _ _ ks, most => by
    rw [ndT, szT]
    have := ndL_le ks most 0
    omega
theorem ndL_le : ∀ (ks : List Tm) (most n : Int), n ≤ ndL ks most n ∧ ndL ks most n ≤ n + (szL ks : Int)
  | [], most, n => by rw [ndL, szL]; omega
  | t :: r, most, n => by
    rw [ndL, szL]
    have h1 := ndT_le t (most - n)
    have h2 := ndL_le r most (n + (1 + ndT t (most - n)))
    split <;> omega
end
mutual
theorem ndT_small : ∀ (t : Tm) (most : Int), ndT t most ≤ most → ndT t most + 1 = (szT t : Int)
  | .mk _ _ _ _ ks, most, h => by
    rw [ndT] at h ⊢
    rw [szT]
    have := ndL_small ks most 0 h
    omega
theorem ndL_small : ∀ (ks : List Tm) (most n : Int), ndL ks most n ≤ most → ndL ks most n = n + (szL ks : Int)
  | [], most, n, _ => by rw [ndL, szL]; omega
  | t :: r, most, n, h => by
    rw [ndL] at h ⊢
    rw [szL]
    split at h
    · omega
    · rename_i hn
      rw [if_neg hn]
      have h1 := ndL_small r most _ h
      have h2 := ndT_small t (most - n) (by omega)
      omega
end
/-- The slice of terms at A reads as ks, one by one. -/
def KidsA (w : World) (B : Nat) (AK : Option Addr) (ks : List Tm) : Prop := ∀ j q, ks[j]? = some q → ∃ b off, AK = some ⟨b, off, none⟩ ∧ b < B ∧ ∃ k' i' nm' AL' nl' cl' AK' ck', w.cell? ⟨b, off + j * 5, none⟩ = some (.int .i64 k') ∧ w.cell? ⟨b, off + j * 5 + 1, none⟩ = some (.int .i64 i') ∧ w.cell? ⟨b, off + j * 5 + 2, none⟩ = some (.string nm') ∧ w.cell? ⟨b, off + j * 5 + 3, none⟩ = some (.slice AL' nl' cl') ∧ w.cell? ⟨b, off + j * 5 + 4, none⟩ = some (.slice AK' q.kids.length ck') ∧ TmV w B q (.agg #[.int .i64 k', .int .i64 i', .string nm', .slice AL' nl' cl', .slice AK' q.kids.length ck'])
theorem TmV.kidsA {w : World} {B : Nat} {t : Tm} {k i : Int} {nm : ByteArray} {AL : Option Addr} {nl cl n : Nat} {AK : Option Addr} {ck : Nat} (h : TmV w B t (.agg #[.int .i64 k, .int .i64 i, .string nm, .slice AL nl cl, .slice AK n ck])) : KidsA w B AK t.kids ∧ t.kids.length ≤ 1759218604441 := by
  obtain ⟨k2, i2, nm2, AL2, nl2, cl2, AK2, ck2, hv, hl, hk⟩ := h.open_
  simp only [Value.agg.injEq, Array.mk.injEq, List.cons.injEq, Value.slice.injEq, and_true] at hv
  obtain ⟨_, _, _, _, rfl, _, _⟩ := hv
  exact ⟨hk, hl⟩
theorem KidsA.below {w w' : World} {B B' : Nat} {AK : Option Addr} {ks : List Tm} (h : KidsA w B AK ks) (hb : Below B' w w') (hB : B ≤ B') : KidsA w' B AK ks := fun j q hq => by
  obtain ⟨b, off, e, hbB, k2, i2, nm2, AL2, nl2, cl2, AK2, ck2, g0, g1, g2, g3, g4, gq⟩ := h j q hq
  have hcl : ∀ o : Nat, w'.cell? ⟨b, o, none⟩ = w.cell? ⟨b, o, none⟩ := fun o => hb.cell (p := ⟨b, o, none⟩) (by show b < B'; omega)
  exact ⟨b, off, e, hbB, k2, i2, nm2, AL2, nl2, cl2, AK2, ck2, (hcl _).trans g0, (hcl _).trans g1, (hcl _).trans g2, (hcl _).trans g3, (hcl _).trans g4, gq.below hb hB⟩
theorem KidsA.alloc {w : World} {B : Nat} {AK : Option Addr} {ks : List Tm} (h : KidsA w B AK ks) (hB : B ≤ w.heap.size) (o : Obj) : KidsA (w.alloc o) B AK ks := h.below ((Below.refl w.heap.size w).alloc (Nat.le_refl _) o) hB

set_option maxRecDepth 100000 in
set_option maxHeartbeats 2000000 in
theorem nodes_any : ∀ (N : Nat) (ks : List Tm) (most : Int) (AK : Option Addr) (ck : Nat) (B : Nat) (w : World), szL ks < N → ks.length ≤ 1759218604441 → KidsA w B AK ks → B ≤ w.heap.size →
    Calls Tryd.prog 50 #[.int .i64 most, .slice AK ks.length ck] w fun e w' => ∃ m : Int, e = .returned (.int .i64 m) ∧ Below w.heap.size w w' ∧ (szL ks ≤ 1000000000000000 → 0 ≤ most → most ≤ 200 → m = ndL ks most 0) := by
  intro N
  induction N with
  | zero => intro ks most AK ck B w hN; omega
  | succ n ih =>
    intro ks most AK ck B w hN hlen hK hB
    have IH := Lib.hid ih
    have HK := Lib.hid hK
    have HN := Lib.hid hN
    clear ih hK hN
    go_enter Tryd.func50, Tryd.ntmps50
    go_wp2_with fail
    go_loopw [5, 10] (fun v5 v10 wr => ∃ (j : Nat) (nn : Int), v5 = .int .i64 nn ∧ v10 = .int .i64 (j : Int) ∧ j ≤ ks.length ∧ Below w.heap.size w wr ∧ Hid (szL ks ≤ 1000000000000000 → 0 ≤ most → most ≤ 200 → ndL (ks.drop j) most nn = ndL ks most 0 ∧ 0 ≤ nn)) (fun _ v10 _ => ks.length - (intOf v10).toNat)
    case atStart => exact ⟨0, 0, rfl, rfl, Nat.zero_le _, Below.refl _ _, Lib.hid fun _ _ _ => ⟨rfl, by omega⟩⟩
    case round =>
      obtain ⟨j, nn, rfl, rfl, hj, hb, hx⟩ := hrel
      by_cases hjl : j < ks.length
      · obtain ⟨b, off, rfl, hbB, k', i', nm', AL', nl', cl', AK', ck', h0, h1, h2, h3, h4, hq⟩ := HK.out j ks[j] (List.getElem?_eq_getElem hjl)
        have hbw : b < w.heap.size := by omega
        replace h0 := (hb.cell (p := ⟨b, off + j * 5, none⟩) hbw).trans h0
        replace h1 := (hb.cell (p := ⟨b, off + j * 5 + 1, none⟩) hbw).trans h1
        replace h2 := (hb.cell (p := ⟨b, off + j * 5 + 2, none⟩) hbw).trans h2
        replace h3 := (hb.cell (p := ⟨b, off + j * 5 + 3, none⟩) hbw).trans h3
        replace h4 := (hb.cell (p := ⟨b, off + j * 5 + 4, none⟩) hbw).trans h4
        have hdr : ks.drop j = ks[j] :: ks.drop (j + 1) := List.drop_eq_getElem_cons hjl
        have HD := Lib.hid hdr
        clear hdr
        cases hg : decide (most < nn) with
        | true =>
          have hgp := of_decide_eq_true hg
          have HE := Lib.hid (show szL ks ≤ 1000000000000000 → 0 ≤ most → most ≤ 200 → nn = ndL ks most 0 from fun a1 a2 a3 => by
            obtain ⟨e1, _⟩ := hx.out a1 a2 a3
            rw [← e1, HD.out, ndL, if_pos hgp])
          clear hgp
          go_wp2_with fail
          exact bodyPost_ret (v := .int .i64 nn) (by simp [results, Tryd.results50, go_sem]) rfl ⟨nn, rfl, hb.alloc hb.size _, HE.out⟩
        | false =>
          have hgp := of_decide_eq_false hg
          have hle := szL_mem (List.getElem_mem hjl)
          have hsz := szT_kids ks[j]
          have hks : szL ks[j].kids < n := by have := HN.out; omega
          have hkl : szL ks[j].kids ≤ szL ks := by omega
          have HKL := Lib.hid (And.intro hkl hgp)
          obtain ⟨hka, hkn⟩ := (hq.below hb hB).kidsA
          have hwr : B ≤ wr.heap.size := Nat.le_trans hB hb.size
          have HKA := Lib.hid hka
          clear hka hle hsz hkl hgp hq
          go_wp2_with fail
          refine (IH.out ks[j].kids _ AK' ck' B _ hks hkn (HKA.out.alloc hwr _) (by simp; omega)).mono ?_
          rintro e w2 ⟨m, rfl, hb2, hm⟩
          have HB2 := Lib.hid ((hb.alloc hb.size _).trans (hb2.mono (by have := hb.size; simp; omega)))
          have HM := Lib.hid hm
          clear hb2 hm h0 h1 h2 h3 h4 hb
          go_wp2
          go_roundw
          case rel =>
            refine ⟨j + 1, _, rfl, by congr 1, by omega, HB2.out, Lib.hid fun a1 a2 a3 => ?_⟩
            obtain ⟨e1, e2⟩ := hx.out a1 a2 a3
            obtain ⟨k1, k2⟩ := HKL.out
            have w1 : wrap64 (most - nn) = most - nn := IntWalk.wrap64_in _ (by omega)
            have hm := HM.out (by omega)
            rw [w1] at hm
            have hm := hm (by omega) (by omega)
            rw [← ndT_kids] at hm
            have b1 := ndT_le ks[j] (most - nn)
            have b2 := ndL_le ks most 0
            rw [HD.out, ndL, if_neg (by omega)] at e1
            have b3 := ndL_le (ks.drop (j + 1)) most (nn + (1 + ndT ks[j] (most - nn)))
            have w2 : wrap64 (1 + m) = 1 + m := IntWalk.wrap64_in _ (by omega)
            have w3 : wrap64 (nn + (1 + m)) = nn + (1 + m) := IntWalk.wrap64_in _ (by omega)
            rw [w2, w3, hm]
            exact ⟨e1, by omega⟩
          case measure => simp [intOf]; omega
      · have he : ks.drop j = [] := List.drop_eq_nil_of_le (by omega)
        have hd2 : decide ((j : Int) < (ks.length : Int)) = false := by rw [decide_eq_false_iff_not]; omega
        have HE := Lib.hid (show szL ks ≤ 1000000000000000 → 0 ≤ most → most ≤ 200 → nn = ndL ks most 0 from fun a1 a2 a3 => by
          obtain ⟨e1, _⟩ := hx.out a1 a2 a3
          rw [← e1, he, ndL])
        go_wp2
        exact bodyPost_ret (v := .int .i64 nn) (by simp [results, Tryd.results50, go_sem]) rfl ⟨nn, rfl, hb, HE.out⟩
end Go.Proofs.YtobaeeobfcffoaaDoor

/-! The law's Few: the number of variables of a level. -/
namespace Go.Proofs.YtobaeeobfcffoaaDoor
open Go.RowKit

set_option maxRecDepth 100000 in
set_option maxHeartbeats 1000000 in
theorem many_any (c : Int) (A : Option Addr) (n cap : Nat) (w : World) : Calls Tryd.prog 52 #[.agg #[.int .i64 c, .slice A n cap]] w fun e w' => e = .returned (.bool (decide (20 < n))) ∧ Below w.heap.size w w' := by
  go_enter Tryd.func52, Tryd.ntmps52
  go_wp2
  go_ret
  exact ⟨ret_bool (decide_eq_decide.2 (by omega)), (Below.refl _ _).alloc (Nat.le_refl _) _⟩

/-- The slice of levels at A reads as ls, one by one: what a loop over it needs. -/
theorem LvsA.at_ {w : World} {B : Nat} {A : Option Addr} {ls : List (Int × List (Int × Int))} (h : LvsA w B A ls) {j : Nat} (hj : j < ls.length) : ∃ b off A' cap, A = some ⟨b, off, none⟩ ∧ b < B ∧ w.cell? ⟨b, off + j * 2, none⟩ = some (.int .i64 ls[j].1) ∧ w.cell? ⟨b, off + j * 2 + 1, none⟩ = some (.slice A' ls[j].2.length cap) ∧ VA w B A' ls[j].2 := by
  obtain ⟨b, off, e, hb, hc⟩ := h.2 (by omega)
  obtain ⟨h1, A', cap, h2, h3⟩ := hc j ls[j].1 ls[j].2 (List.getElem?_eq_getElem hj)
  exact ⟨b, off, A', cap, e, hb, h1, h2, h3⟩
def manyL (ls : List (Int × List (Int × Int))) : Bool := ls.any fun l => decide (20 < l.2.length)

theorem many_take {ls : List (Int × List (Int × Int))} {j : Nat} (hj : j < ls.length) : manyL (ls.take (j + 1)) = (manyL (ls.take j) || decide (20 < ls[j].2.length)) := by
  unfold manyL
  rw [List.take_add_one, List.getElem?_eq_getElem hj, Option.toList_some, List.any_append]
  simp
theorem many_at {ls : List (Int × List (Int × Int))} {j : Nat} (hj : j < ls.length) (h : decide (20 < ls[j].2.length) = true) : manyL ls = true := by
  unfold manyL
  exact List.any_eq_true.2 ⟨ls[j], List.getElem_mem hj, h⟩

set_option maxRecDepth 100000 in
set_option maxHeartbeats 2000000 in
theorem indexF_any (ls : List (Int × List (Int × Int))) (A : Option Addr) (cap B : Nat) (w : World) (hv : LvsA w B A ls) (hB : B ≤ w.heap.size) :
    Calls Tryd.prog 70 #[.slice A ls.length cap, .func (.func 52) #[] #[]] w fun e w' => ∃ r : Int, e = .returned (.int .i64 r) ∧ decide (0 ≤ r) = manyL ls ∧ Below w.heap.size w w' := by
  have hlen : ls.length ≤ 4398046511104 := by have := hv.1; omega
  have HV := Lib.hid hv
  clear hv
  go_enter Tryd.func70, Tryd.ntmps70
  go_wp2_with fail
  go_loopw [8] (fun v8 wr => ∃ j : Nat, v8 = .int .i64 (j : Int) ∧ j ≤ ls.length ∧ Below w.heap.size w wr ∧ Hid (manyL (ls.take j) = false)) (fun v8 _ => ls.length - (intOf v8).toNat)
  case atStart => exact ⟨0, rfl, Nat.zero_le _, Below.refl _ _, Lib.hid rfl⟩
  case round =>
    obtain ⟨j, rfl, hj, hb, hx⟩ := hrel
    by_cases hjl : j < ls.length
    · obtain ⟨b, off, A', cap', rfl, hbB, h0, h1, _⟩ := HV.out.at_ hjl
      have hbw : b < w.heap.size := by omega
      replace h0 := (hb.cell (p := ⟨b, off + j * 2, none⟩) hbw).trans h0
      replace h1 := (hb.cell (p := ⟨b, off + j * 2 + 1, none⟩) hbw).trans h1
      have HT := Lib.hid (many_take hjl)
      have HA := Lib.hid (fun h => many_at hjl h)
      go_wp2_with fail
      refine (many_any ls[j].1 A' ls[j].2.length cap' _).mono ?_
      rintro e w2 ⟨rfl, hb2⟩
      have HB2 := Lib.hid (hb.trans (hb2.mono hb.size))
      clear hb2 h0 h1 hb
      cases hg : decide (20 < ls[j].2.length) with
      | true =>
        have HM := Lib.hid (HA.out hg)
        go_wp2
        exact bodyPost_ret (v := .int .i64 j) (by simp [results, Tryd.results70, go_sem]) rfl ⟨j, rfl, by rw [HM.out, decide_eq_true_eq]; omega, HB2.out⟩
      | false =>
        have HM := Lib.hid (show manyL (ls.take (j + 1)) = false by rw [HT.out, hx.out, hg]; rfl)
        go_wp2
        go_roundw
        case rel => exact ⟨j + 1, by congr 1, by omega, HB2.out, HM⟩
        case measure => simp [intOf]; omega
    · have he : ls.take j = ls := List.take_of_length_le (by omega)
      have HM := Lib.hid (show manyL ls = false by rw [← hx.out, he])
      have hd2 : decide ((j : Int) < (ls.length : Int)) = false := by rw [decide_eq_false_iff_not]; omega
      clear he
      go_wp2
      exact bodyPost_ret (v := .int .i64 (-1)) (by simp [results, Tryd.results70, go_sem]) rfl ⟨-1, rfl, by rw [HM.out]; rfl, hb⟩

set_option maxRecDepth 100000 in
set_option maxHeartbeats 2000000 in
theorem contains_any (ls : List (Int × List (Int × Int))) (A : Option Addr) (cap B : Nat) (w : World) (hv : LvsA w B A ls) (hB : B ≤ w.heap.size) :
    Calls Tryd.prog 51 #[.slice A ls.length cap, .func (.func 52) #[] #[]] w fun e w' => e = .returned (.bool (manyL ls)) ∧ Below w.heap.size w w' := by
  have HC := Lib.hid (indexF_any ls A cap B w hv hB)
  clear hv
  go_enter Tryd.func51, Tryd.ntmps51
  go_wp2_with fail
  refine HC.out.mono ?_
  rintro e w2 ⟨r, rfl, hr, hb⟩
  have HR := Lib.hid hr
  clear hr HC
  go_wp2
  go_ret
  exact ⟨ret_bool HR.out, hb⟩
end Go.Proofs.YtobaeeobfcffoaaDoor

/-! The law's Few: the walk. -/
namespace Go.Proofs.YtobaeeobfcffoaaDoor
open Go.RowKit

def Tm.name : Tm → ByteArray
  | .mk _ _ nm _ _ => nm
def Tm.lvs : Tm → List (Int × List (Int × Int))
  | .mk _ _ _ ls _ => ls
/-- What Few has seen of the terms: few nodes in all, short names, few levels, few variables. -/
def FewL (ks : List Tm) : Prop := szL ks ≤ 200 ∧ ∀ q ∈ ks, q.name.size ≤ 200 ∧ q.lvs.length ≤ 20 ∧ manyL q.lvs = false
theorem TmV.parts {w : World} {B : Nat} {t : Tm} {k i : Int} {nm : ByteArray} {AL : Option Addr} {nl cl n : Nat} {AK : Option Addr} {ck : Nat} (h : TmV w B t (.agg #[.int .i64 k, .int .i64 i, .string nm, .slice AL nl cl, .slice AK n ck])) : nm = t.name ∧ nl = t.lvs.length ∧ LvsA w B AL t.lvs := by
  cases t with
  | mk k' i' nm' ls ks =>
    rw [TmV] at h
    obtain ⟨AL', cl', AK', ck', hv, hl, _⟩ := h
    simp only [Value.agg.injEq, Array.mk.injEq, List.cons.injEq, Value.slice.injEq, Value.string.injEq, and_true] at hv
    obtain ⟨_, _, rfl, ⟨rfl, rfl, _⟩, _⟩ := hv
    exact ⟨rfl, rfl, hl⟩
theorem LvsA.below {w w' : World} {B B' : Nat} {A : Option Addr} {ls : List (Int × List (Int × Int))} (h : LvsA w B A ls) (hb : Below B' w w') (hB : B ≤ B') : LvsA w' B A ls :=
  ⟨h.1, fun hn => by
    obtain ⟨b, off, e, hbB, hc⟩ := h.2 hn
    refine ⟨b, off, e, hbB, fun j c vs hj => ?_⟩
    obtain ⟨h1, A', cap, h2, h3⟩ := hc j c vs hj
    exact ⟨(hb.cell (p := ⟨b, off + j * 2, none⟩) (by show b < B'; omega)).trans h1, A', cap, (hb.cell (p := ⟨b, off + j * 2 + 1, none⟩) (by show b < B'; omega)).trans h2, h3.below hb hB⟩⟩
/-- All the way down. -/
inductive FewD : List Tm → Prop
  | mk {ks : List Tm} (h : FewL ks) (hd : ∀ q ∈ ks, FewD q.kids) : FewD ks
theorem szL_bound : ∀ (ks : List Tm), (∀ q ∈ ks, szL q.kids ≤ 200) → szL ks ≤ ks.length * 201
  | [], _ => by rw [szL]; omega
  | t :: r, h => by
    rw [szL, szT_kids]
    have h1 := h t (by simp)
    have h2 := szL_bound r (fun q hq => h q (by simp [hq]))
    simp only [List.length_cons]
    omega
theorem FewD.sz {ks : List Tm} (h : FewD ks) : szL ks ≤ 200 := by
  cases h with
  | mk h _ => exact h.1
/-- What a loop of Few has seen. -/
def SeenF (ks : List Tm) : Prop := ∀ q ∈ ks, (q.name.size ≤ 200 ∧ q.lvs.length ≤ 20 ∧ manyL q.lvs = false) ∧ FewD q.kids
theorem SeenF.step {ks : List Tm} {j : Nat} (h : SeenF (ks.take j)) (hj : j < ks.length) (hq : (ks[j].name.size ≤ 200 ∧ ks[j].lvs.length ≤ 20 ∧ manyL ks[j].lvs = false) ∧ FewD ks[j].kids) : SeenF (ks.take (j + 1)) := by
  intro q hm
  rw [List.take_add_one, List.getElem?_eq_getElem hj, Option.toList_some] at hm
  rcases List.mem_append.1 hm with hm | hm
  · exact h q hm
  · rw [List.mem_singleton.1 hm]; exact hq
theorem SeenF.all {ks : List Tm} (h : SeenF ks) (hlen : ks.length ≤ 1759218604441) {m : Int} (hm : szL ks ≤ 1000000000000000 → m = ndL ks 200 0) (hle : m ≤ 200) : FewD ks := by
  have hb := szL_bound ks (fun q hq => (h q hq).2.sz)
  have e := hm (by omega)
  have hs := ndL_small ks 200 0 (by omega)
  exact ⟨⟨by omega, fun q hq => (h q hq).1⟩, fun q hq => (h q hq).2⟩
/-- What Few returns and leaves. -/
def FewPost (ks : List Tm) (w : World) (e : Ending) (w' : World) : Prop := ∃ b, e = .returned (.bool b) ∧ Below w.heap.size w w' ∧ (b = true → FewD ks)

set_option maxRecDepth 100000 in
set_option maxHeartbeats 4000000 in
theorem few_any : ∀ (N : Nat) (ks : List Tm) (AK : Option Addr) (ck B : Nat) (w : World), szL ks < N → ks.length ≤ 1759218604441 → KidsA w B AK ks → B ≤ w.heap.size →
    Calls Tryd.prog 25 #[.slice AK ks.length ck] w (FewPost ks w) := by
  intro N
  induction N with
  | zero => intro ks AK ck B w hN; omega
  | succ n ih =>
  intro ks AK ck B w hN hlen hK hB
  have IH := Lib.hid ih
  have HK := Lib.hid hK
  have HN := Lib.hid hN
  clear ih hK hN
  go_enter Tryd.func25, Tryd.ntmps25
  go_wp2_with fail
  refine (nodes_any (szL ks + 1) ks 200 AK ck B _ (by omega) hlen HK.out hB).mono ?_
  rintro e w1 ⟨m, rfl, hb1, hm⟩
  have HM := Lib.hid (fun h => hm h (by omega) (by omega))
  clear hm
  cases hg : decide (200 < m) with
  | true =>
    go_wp2
    go_ret
    exact ⟨false, rfl, hb1, fun h => by cases h⟩
  | false =>
    have HG := Lib.hid (of_decide_eq_false hg)
    go_wp2_with fail
    go_loopw [10] (fun v10 wr => ∃ j : Nat, v10 = .int .i64 (j : Int) ∧ j ≤ ks.length ∧ Below w.heap.size w wr ∧ Hid (SeenF (ks.take j))) (fun v10 _ => ks.length - (intOf v10).toNat)
    case atStart => exact ⟨0, rfl, Nat.zero_le _, hb1, Lib.hid (fun q hq => by cases hq)⟩
    case round =>
      obtain ⟨j, rfl, hj, hb, hx⟩ := hrel
      clear hb1
      by_cases hjl : j < ks.length
      · obtain ⟨b, off, rfl, hbB, k', i', nm', AL', nl', cl', AK', ck', h0, h1, h2, h3, h4, hq⟩ := HK.out j ks[j] (List.getElem?_eq_getElem hjl)
        have hbw : b < w.heap.size := by omega
        replace h0 := (hb.cell (p := ⟨b, off + j * 5, none⟩) hbw).trans h0
        replace h1 := (hb.cell (p := ⟨b, off + j * 5 + 1, none⟩) hbw).trans h1
        replace h2 := (hb.cell (p := ⟨b, off + j * 5 + 2, none⟩) hbw).trans h2
        replace h3 := (hb.cell (p := ⟨b, off + j * 5 + 3, none⟩) hbw).trans h3
        replace h4 := (hb.cell (p := ⟨b, off + j * 5 + 4, none⟩) hbw).trans h4
        replace hq := hq.below hb hB
        have hwr : B ≤ wr.heap.size := Nat.le_trans hB hb.size
        obtain ⟨hnme, hnle, hlva⟩ := hq.parts
        obtain ⟨hka, hkn⟩ := hq.kidsA
        have hle := szL_mem (List.getElem_mem hjl)
        have hszk := szT_kids ks[j]
        have hks : szL ks[j].kids < n := by have := HN.out; omega
        have HKA := Lib.hid hka
        have HLA := Lib.hid hlva
        have HE := Lib.hid (And.intro hnme hnle)
        clear hka hlva hle hszk hq hnme
        cases hnm : decide (200 < (nm'.size : Int)) with
        | true =>
          go_wp2_with fail
          exact bodyPost_ret (v := .bool false) (by simp [results, Tryd.results25, go_sem]) rfl ⟨false, rfl, hb.alloc hb.size _, fun h => by cases h⟩
        | false =>
          subst hnle
          cases hnl : decide (20 < (ks[j].lvs.length : Int)) with
          | true =>
            go_wp2_with fail
            exact bodyPost_ret (v := .bool false) (by simp [results, Tryd.results25, go_sem]) rfl ⟨false, rfl, hb.alloc hb.size _, fun h => by cases h⟩
          | false =>
            have H2 := Lib.hid (And.intro (of_decide_eq_false hnm) (of_decide_eq_false hnl))
            go_wp2_with fail
            refine (contains_any ks[j].lvs AL' cl' B _ (HLA.out.below ((Below.refl wr.heap.size wr).alloc (Nat.le_refl _) _) hwr) (by simp; omega)).mono ?_
            rintro e w2 ⟨rfl, hb2⟩
            have hc4 : w2.cell? ⟨wr.heap.size, 4, none⟩ = some (.slice AK' ks[j].kids.length ck') := (hb2.cell (p := ⟨wr.heap.size, 4, none⟩) (by simp)).trans (by go_simp)
            have HB2 := Lib.hid ((hb.alloc hb.size _).trans (hb2.mono (by have := hb.size; simp; omega)))
            have HKA2 := Lib.hid ((HKA.out.alloc hwr _).below hb2 (by simp; omega))
            have hw2 : B ≤ w2.heap.size := by have := hb2.size; simp at this; omega
            clear hb2 h0 h1 h2 h3 h4 hb HKA
            cases hmn : manyL ks[j].lvs with
            | true =>
              go_wp2_with fail
              exact bodyPost_ret (v := .bool false) (by simp [results, Tryd.results25, go_sem]) rfl ⟨false, rfl, HB2.out, fun h => by cases h⟩
            | false =>
              have HMN := Lib.hid hmn
              go_wp2_with fail
              refine (IH.out ks[j].kids AK' ck' B _ hks hkn HKA2.out hw2).mono ?_
              rintro e w3 ⟨bb, rfl, hb3, hf⟩
              have HB3 := Lib.hid (HB2.out.trans (hb3.mono HB2.out.size))
              clear hb3
              cases bb with
              | false =>
                clear hf
                go_wp2_with fail
                exact bodyPost_ret (v := .bool false) (by simp [results, Tryd.results25, go_sem]) rfl ⟨false, rfl, HB3.out, fun h => by cases h⟩
              | true =>
                have HF := Lib.hid (hf rfl)
                clear hf
                have HX := Lib.hid (hx.out.step hjl ⟨⟨by have := H2.out.1; rw [← HE.out.1]; omega, by have := H2.out.2; omega, HMN.out⟩, HF.out⟩)
                go_wp2
                go_roundw
                case rel => exact ⟨j + 1, by congr 1, by omega, HB3.out, HX⟩
                case measure => simp [intOf]; omega
      · have he : ks.take j = ks := List.take_of_length_le (by omega)
        have HX := Lib.hid (show FewD ks by
          have h := hx.out
          rw [he] at h
          exact h.all hlen HM.out (by have := HG.out; omega))
        have hd2 : decide ((j : Int) < (ks.length : Int)) = false := by rw [decide_eq_false_iff_not]; omega
        clear he
        go_wp2
        exact bodyPost_ret (v := .bool true) (by simp [results, Tryd.results25, go_sem]) rfl ⟨true, rfl, hb, fun _ => HX.out⟩
end Go.Proofs.YtobaeeobfcffoaaDoor
