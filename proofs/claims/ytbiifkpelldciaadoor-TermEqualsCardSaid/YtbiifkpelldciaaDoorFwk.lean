/- The law's Few: the walk. -/
import Derived.Test.YtbiifkpelldciaaDoorFew
namespace Go.Proofs.YtbiifkpelldciaaDoor
open Go.RowKit

def Tm.name : Tm → ByteArray
  | .mk _ _ nm _ _ => nm
def Tm.lvs : Tm → List (Int × List (Int × Int))
  | .mk _ _ _ ls _ => ls
/-- What Few has seen of the terms: few nodes in all, short names, few levels, few variables. -/
def FewL (ks : List Tm) : Prop := szL ks ≤ 200 ∧ ∀ q ∈ ks, q.name.size ≤ 200 ∧ q.lvs.length ≤ 20 ∧ manyL q.lvs = false
theorem TmV.parts {w : World} {B : Nat} {t : Tm} {k i : Int} {nm : ByteArray} {AL : Option Addr} {nl cl n : Nat} {AK : Option Addr} {ck : Nat} (h : TmV w B t (.agg #[.int .i64 k, .int .i64 i, .string nm, .slice AL nl cl, .slice AK n ck])) : nm = t.name ∧ nl = t.lvs.length ∧ LvsA w B AL t.lvs := by
  cases t with
  | mk k' i' nm' ls ks =>
    rw [TmV] at h
    obtain ⟨AL', cl', AK', ck', hv, hl, _⟩ := h
    simp only [Value.agg.injEq, Array.mk.injEq, List.cons.injEq, Value.slice.injEq, Value.string.injEq, and_true] at hv
    obtain ⟨_, _, rfl, ⟨rfl, rfl, _⟩, _⟩ := hv
    exact ⟨rfl, rfl, hl⟩
theorem LvsA.below {w w' : World} {B B' : Nat} {A : Option Addr} {ls : List (Int × List (Int × Int))} (h : LvsA w B A ls) (hb : Below B' w w') (hB : B ≤ B') : LvsA w' B A ls :=
  ⟨h.1, fun hn => by
    obtain ⟨b, off, e, hbB, hc⟩ := h.2 hn
    refine ⟨b, off, e, hbB, fun j c vs hj => ?_⟩
    obtain ⟨h1, A', cap, h2, h3⟩ := hc j c vs hj
    exact ⟨(hb.cell (p := ⟨b, off + j * 2, none⟩) (by show b < B'; omega)).trans h1, A', cap, (hb.cell (p := ⟨b, off + j * 2 + 1, none⟩) (by show b < B'; omega)).trans h2, h3.below hb hB⟩⟩
/-- All the way down. -/
inductive FewD : List Tm → Prop
  | mk {ks : List Tm} (h : FewL ks) (hd : ∀ q ∈ ks, FewD q.kids) : FewD ks
theorem szL_bound : ∀ (ks : List Tm), (∀ q ∈ ks, szL q.kids ≤ 200) → szL ks ≤ ks.length * 201
  | [], _ => by rw [szL]; omega
  | t :: r, h => by
    rw [szL, szT_kids]
    have h1 := h t (by simp)
    have h2 := szL_bound r (fun q hq => h q (by simp [hq]))
    simp only [List.length_cons]
    omega
theorem FewD.sz {ks : List Tm} (h : FewD ks) : szL ks ≤ 200 := by
  cases h with
  | mk h _ => exact h.1
/-- What a loop of Few has seen. -/
def SeenF (ks : List Tm) : Prop := ∀ q ∈ ks, (q.name.size ≤ 200 ∧ q.lvs.length ≤ 20 ∧ manyL q.lvs = false) ∧ FewD q.kids
theorem SeenF.step {ks : List Tm} {j : Nat} (h : SeenF (ks.take j)) (hj : j < ks.length) (hq : (ks[j].name.size ≤ 200 ∧ ks[j].lvs.length ≤ 20 ∧ manyL ks[j].lvs = false) ∧ FewD ks[j].kids) : SeenF (ks.take (j + 1)) := by
  intro q hm
  rw [List.take_add_one, List.getElem?_eq_getElem hj, Option.toList_some] at hm
  rcases List.mem_append.1 hm with hm | hm
  · exact h q hm
  · rw [List.mem_singleton.1 hm]; exact hq
theorem SeenF.all {ks : List Tm} (h : SeenF ks) (hlen : ks.length ≤ 1759218604441) {m : Int} (hm : szL ks ≤ 1000000000000000 → m = ndL ks 200 0) (hle : m ≤ 200) : FewD ks := by
  have hb := szL_bound ks (fun q hq => (h q hq).2.sz)
  have e := hm (by omega)
  have hs := ndL_small ks 200 0 (by omega)
  exact ⟨⟨by omega, fun q hq => (h q hq).1⟩, fun q hq => (h q hq).2⟩
/-- What Few returns and leaves. -/
def FewPost (ks : List Tm) (w : World) (e : Ending) (w' : World) : Prop := ∃ b, e = .returned (.bool b) ∧ Below w.heap.size w w' ∧ (b = true → FewD ks)

set_option maxRecDepth 100000 in
set_option maxHeartbeats 4000000 in
theorem few_any : ∀ (N : Nat) (ks : List Tm) (AK : Option Addr) (ck B : Nat) (w : World), szL ks < N → ks.length ≤ 1759218604441 → KidsA w B AK ks → B ≤ w.heap.size →
    Calls Tryd.prog 14 #[.slice AK ks.length ck] w (FewPost ks w) := by
  intro N
  induction N with
  | zero => intro ks AK ck B w hN; omega
  | succ n ih =>
  intro ks AK ck B w hN hlen hK hB
  have IH := Lib.hid ih
  have HK := Lib.hid hK
  have HN := Lib.hid hN
  clear ih hK hN
  go_enter Tryd.func14, Tryd.ntmps14
  go_wp2_with fail
  refine (nodes_any (szL ks + 1) ks 200 AK ck B _ (by omega) hlen HK.out hB).mono ?_
  rintro e w1 ⟨m, rfl, hb1, hm⟩
  have HM := Lib.hid (fun h => hm h (by omega) (by omega))
  clear hm
  cases hg : decide (200 < m) with
  | true =>
    go_wp2
    go_ret
    exact ⟨false, rfl, hb1, fun h => by cases h⟩
  | false =>
    have HG := Lib.hid (of_decide_eq_false hg)
    go_wp2_with fail
    go_loopw [10] (fun v10 wr => ∃ j : Nat, v10 = .int .i64 (j : Int) ∧ j ≤ ks.length ∧ Below w.heap.size w wr ∧ Hid (SeenF (ks.take j))) (fun v10 _ => ks.length - (intOf v10).toNat)
    case atStart => exact ⟨0, rfl, Nat.zero_le _, hb1, Lib.hid (fun q hq => by cases hq)⟩
    case round =>
      obtain ⟨j, rfl, hj, hb, hx⟩ := hrel
      clear hb1
      by_cases hjl : j < ks.length
      · obtain ⟨b, off, rfl, hbB, k', i', nm', AL', nl', cl', AK', ck', h0, h1, h2, h3, h4, hq⟩ := HK.out j ks[j] (List.getElem?_eq_getElem hjl)
        have hbw : b < w.heap.size := by omega
        replace h0 := (hb.cell (p := ⟨b, off + j * 5, none⟩) hbw).trans h0
        replace h1 := (hb.cell (p := ⟨b, off + j * 5 + 1, none⟩) hbw).trans h1
        replace h2 := (hb.cell (p := ⟨b, off + j * 5 + 2, none⟩) hbw).trans h2
        replace h3 := (hb.cell (p := ⟨b, off + j * 5 + 3, none⟩) hbw).trans h3
        replace h4 := (hb.cell (p := ⟨b, off + j * 5 + 4, none⟩) hbw).trans h4
        replace hq := hq.below hb hB
        have hwr : B ≤ wr.heap.size := Nat.le_trans hB hb.size
        obtain ⟨hnme, hnle, hlva⟩ := hq.parts
        obtain ⟨hka, hkn⟩ := hq.kidsA
        have hle := szL_mem (List.getElem_mem hjl)
        have hszk := szT_kids ks[j]
        have hks : szL ks[j].kids < n := by have := HN.out; omega
        have HKA := Lib.hid hka
        have HLA := Lib.hid hlva
        have HE := Lib.hid (And.intro hnme hnle)
        clear hka hlva hle hszk hq hnme
        cases hnm : decide (200 < (nm'.size : Int)) with
        | true =>
          go_wp2_with fail
          exact bodyPost_ret (v := .bool false) (by simp [results, Tryd.results14, go_sem]) rfl ⟨false, rfl, hb.alloc hb.size _, fun h => by cases h⟩
        | false =>
          subst hnle
          cases hnl : decide (20 < (ks[j].lvs.length : Int)) with
          | true =>
            go_wp2_with fail
            exact bodyPost_ret (v := .bool false) (by simp [results, Tryd.results14, go_sem]) rfl ⟨false, rfl, hb.alloc hb.size _, fun h => by cases h⟩
          | false =>
            have H2 := Lib.hid (And.intro (of_decide_eq_false hnm) (of_decide_eq_false hnl))
            go_wp2_with fail
            refine (contains_any ks[j].lvs AL' cl' B _ (HLA.out.below ((Below.refl wr.heap.size wr).alloc (Nat.le_refl _) _) hwr) (by simp; omega)).mono ?_
            rintro e w2 ⟨rfl, hb2⟩
            have hc4 : w2.cell? ⟨wr.heap.size, 4, none⟩ = some (.slice AK' ks[j].kids.length ck') := (hb2.cell (p := ⟨wr.heap.size, 4, none⟩) (by simp)).trans (by go_simp)
            have HB2 := Lib.hid ((hb.alloc hb.size _).trans (hb2.mono (by have := hb.size; simp; omega)))
            have HKA2 := Lib.hid ((HKA.out.alloc hwr _).below hb2 (by simp; omega))
            have hw2 : B ≤ w2.heap.size := by have := hb2.size; simp at this; omega
            clear hb2 h0 h1 h2 h3 h4 hb HKA
            cases hmn : manyL ks[j].lvs with
            | true =>
              go_wp2_with fail
              exact bodyPost_ret (v := .bool false) (by simp [results, Tryd.results14, go_sem]) rfl ⟨false, rfl, HB2.out, fun h => by cases h⟩
            | false =>
              have HMN := Lib.hid hmn
              go_wp2_with fail
              refine (IH.out ks[j].kids AK' ck' B _ hks hkn HKA2.out hw2).mono ?_
              rintro e w3 ⟨bb, rfl, hb3, hf⟩
              have HB3 := Lib.hid (HB2.out.trans (hb3.mono HB2.out.size))
              clear hb3
              cases bb with
              | false =>
                clear hf
                go_wp2_with fail
                exact bodyPost_ret (v := .bool false) (by simp [results, Tryd.results14, go_sem]) rfl ⟨false, rfl, HB3.out, fun h => by cases h⟩
              | true =>
                have HF := Lib.hid (hf rfl)
                clear hf
                have HX := Lib.hid (hx.out.step hjl ⟨⟨by have := H2.out.1; rw [← HE.out.1]; omega, by have := H2.out.2; omega, HMN.out⟩, HF.out⟩)
                go_wp2
                go_roundw
                case rel => exact ⟨j + 1, by congr 1, by omega, HB3.out, HX⟩
                case measure => simp [intOf]; omega
      · have he : ks.take j = ks := List.take_of_length_le (by omega)
        have HX := Lib.hid (show FewD ks by
          have h := hx.out
          rw [he] at h
          exact h.all hlen HM.out (by have := HG.out; omega))
        have hd2 : decide ((j : Int) < (ks.length : Int)) = false := by rw [decide_eq_false_iff_not]; omega
        clear he
        go_wp2
        exact bodyPost_ret (v := .bool true) (by simp [results, Tryd.results14, go_sem]) rfl ⟨true, rfl, hb, fun _ => HX.out⟩
end Go.Proofs.YtbiifkpelldciaaDoor
