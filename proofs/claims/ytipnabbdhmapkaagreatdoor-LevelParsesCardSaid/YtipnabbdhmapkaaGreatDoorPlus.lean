/- Plus: a level plus a number. -/
import Derived.Test.YtipnabbdhmapkaaGreatDoorCan
import Derived.Test.YtipnabbdhmapkaaGreatDoorVal
import Derived.Test.YtipnabbdhmapkaaGreatDoorOf
namespace Go.Proofs.YtipnabbdhmapkaaGreatDoor
open Go.RowKit

def plusVs (n : Int) (vs : List (Int × Int)) : List (Int × Int) := vs.map fun p => (p.1, p.2 + n)
/-- The first k offsets are raised. -/
def mixVs (n : Int) (vs : List (Int × Int)) (k : Nat) : List (Int × Int) := plusVs n (vs.take k) ++ vs.drop k
theorem mixVs_length (n : Int) (vs : List (Int × Int)) (k : Nat) : (mixVs n vs k).length = vs.length := by
  simp only [mixVs, plusVs, List.length_append, List.length_map, List.length_take, List.length_drop]; omega
theorem plusVs_length (n : Int) (vs : List (Int × Int)) : (plusVs n vs).length = vs.length := by simp [plusVs]
theorem mixVs_end (n : Int) (vs : List (Int × Int)) : mixVs n vs vs.length = plusVs n vs := by simp [mixVs]
theorem mixVs_zero (n : Int) (vs : List (Int × Int)) : mixVs n vs 0 = vs := by simp [mixVs, plusVs]
theorem mixVs_at (n : Int) (vs : List (Int × Int)) (k : Nat) (hk : k < vs.length) : (mixVs n vs k)[k]? = vs[k]? := by
  unfold mixVs
  rw [List.getElem?_append_right (by simp [plusVs]; omega)]
  simp only [plusVs, List.length_map, List.length_take, List.getElem?_drop]
  congr 1
  omega
theorem flat_set_odd (vs : List (Int × Int)) (k : Nat) (x y z : Int) (h : vs[k]? = some (x, y)) : (flat vs).set (k * 2 + 1) (.int .i64 z) = flat (vs.set k (x, z)) := by
  induction vs generalizing k with
  | nil => simp at h
  | cons p r ih =>
    cases k with
    | zero => simp at h; simp [flat, h]
    | succ k =>
      rw [show (k + 1) * 2 + 1 = k * 2 + 1 + 1 + 1 by omega]
      simp only [flat, List.set_cons_succ]
      rw [ih k (by simpa using h)]
theorem mixVs_set (n : Int) (vs : List (Int × Int)) (k : Nat) (x y : Int) (h : vs[k]? = some (x, y)) : (mixVs n vs k).set k (x, y + n) = mixVs n vs (k + 1) := by
  obtain ⟨hl, he⟩ := List.getElem?_eq_some_iff.1 h
  unfold mixVs
  rw [List.set_append_right _ _ (by simp [plusVs]; omega), List.take_succ_eq_append_getElem hl]
  have hlen : (plusVs n (vs.take k)).length = k := by simp [plusVs]; omega
  rw [hlen, Nat.sub_self, List.drop_eq_getElem_cons hl, List.set_cons_zero]
  simp [plusVs, he]

def plusOk (c : Int) (vs : List (Int × Int)) (n : Int) : Bool := vldB c vs && (decide (0 ≤ n) && decide (n ≤ 100 - leastI c vs))
def plusE (c : Int) (vs : List (Int × Int)) (n : Int) : Int := if vldB c vs = true then (if 0 ≤ n then (if n ≤ 100 - leastI c vs then 0 else 15) else 2) else 3
def plusC (c : Int) (vs : List (Int × Int)) (n : Int) : Int := if plusOk c vs n = true then canonC (c + n) (plusVs n vs) else 0
def plusV (c : Int) (vs : List (Int × Int)) (n : Int) : List (Int × Int) := if plusOk c vs n = true then plusVs n vs else []

theorem leastI_ge (c : Int) (vs : List (Int × Int)) : c ≤ leastI c vs ∧ ∀ (j : Nat) (x y : Int), vs[j]? = some (x, y) → y ≤ leastI c vs := by
  induction vs generalizing c with
  | nil => exact ⟨Int.le_refl _, fun j x y h => by simp at h⟩
  | cons p r ih =>
    obtain ⟨h1, h2⟩ := ih (max c p.2)
    have e : leastI c (p :: r) = leastI (max c p.2) r := rfl
    rw [e]
    refine ⟨by omega, fun j x y h => ?_⟩
    cases j with
    | zero =>
      obtain ⟨px, py⟩ := p
      simp only [List.getElem?_cons_zero, Option.some.injEq, Prod.mk.injEq] at h
      obtain ⟨rfl, rfl⟩ := h
      simp only at h1 ⊢
      omega
    | succ j => exact h2 j x y (by simpa using h)
theorem leastI_le {c m : Int} {vs : List (Int × Int)} (h1 : c ≤ m) (h2 : ∀ p ∈ vs, p.2 ≤ m) : leastI c vs ≤ m := by
  induction vs generalizing c with
  | nil => exact h1
  | cons p r ih =>
    have e : leastI c (p :: r) = leastI (max c p.2) r := rfl
    rw [e]
    exact ih (by have := h2 p (by simp); omega) (fun q hq => h2 q (by simp [hq]))
theorem vldB_parts {c : Int} {vs : List (Int × Int)} (h : vldB c vs = true) : (0 ≤ c ∧ c ≤ 100) ∧ OkTo vs vs.length := by
  simp only [vldB, Bool.and_eq_true, decide_eq_true_eq] at h
  exact ⟨h.1, (okB_iff vs).1 h.2.1⟩
theorem vldB_least {c : Int} {vs : List (Int × Int)} (h : vldB c vs = true) : 0 ≤ leastI c vs ∧ leastI c vs ≤ 100 := by
  obtain ⟨⟨h1, h2⟩, h3⟩ := vldB_parts h
  refine ⟨by have := (leastI_ge c vs).1; omega, leastI_le h2 fun p hp => ?_⟩
  obtain ⟨j, hj, rfl⟩ := List.mem_iff_getElem.1 hp
  exact (h3 j vs[j].1 vs[j].2 hj (List.getElem?_eq_getElem hj)).1.2.2

set_option maxRecDepth 100000 in
set_option maxHeartbeats 2000000 in
theorem plus_bad (c : Int) (A : Option Addr) (cap : Nat) (vs : List (Int × Int)) (n : Int) (B : Nat) (w : World) (hv : VA w B A vs) (hB : B ≤ w.heap.size) (hbad : plusOk c vs n = false) :
    Calls Tryz.prog 22 #[.agg #[.int .i64 c, .slice A vs.length cap], .int .i64 n] w (GivesLv 0 [] (plusE c vs n) w) := by
  have hv2 := (hv.alloc hB (.cells #[.int .i64 c, .slice A vs.length cap] 24)).alloc (by simp; omega) (.cells #[.int .i64 0, .slice none 0 0] 24)
  cases hvl : vldB c vs with
  | false =>
    rw [show plusE c vs n = 3 by simp [plusE, hvl]]
    have H := Lib.hid hvl
    clear hvl hbad
    go_enter Tryz.func22, Tryz.ntmps22
    go_wp2_with fail
    refine (valid_any _ _ _ _ B _ hv2 (by simp; omega)).mono ?_
    rw [H.out]
    rintro e w' ⟨rfl, hb⟩
    obtain ⟨hc, hf⟩ := bcell hb
    go_wp2
    exact bodyPost_ret (v := .tuple #[.agg #[.int .i64 0, .slice none 0 0], .int .i64 3]) (by simp [results, Tryz.results22, go_sem, hc]) rfl (gives_zero (((((Below.refl _ _).alloc (Nat.le_refl _) _).alloc (by simp) _).trans (hb.mono (by simp; omega))).setCell (by simp) _ |>.setCell (by simp) _))
  | true =>
    have hle := vldB_least hvl
    have H := Lib.hid hvl
    by_cases h0 : 0 ≤ n
    · have h1 : ¬ n ≤ 100 - leastI c vs := by
        intro h1
        simp [plusOk, hvl, h0, h1] at hbad
      rw [show plusE c vs n = 15 by simp [plusE, hvl, h0, h1]]
      clear hvl hbad
      generalize hL : leastI c vs = L at hle h1
      have HL := Lib.hid hL
      clear hL
      obtain ⟨hl0, hl1⟩ := hle
      go_enter Tryz.func22, Tryz.ntmps22
      go_wp2_with fail
      refine (valid_any _ _ _ _ B _ hv2 (by simp; omega)).mono ?_
      rw [H.out]
      rintro e w' ⟨rfl, hb⟩
      obtain ⟨hc, hf⟩ := bcell hb
      have hv3 := hv2.below hb (by simp; omega)
      go_wp2_with fail
      refine (least_any _ _ _ _ B _ hv3 (by have := hb.size; simp at this; omega)).mono ?_
      rw [HL.out]
      rintro e w'' ⟨rfl, hb2⟩
      obtain ⟨hc2, hf2⟩ := bcell hb2
      have hz : w.heap.size + 1 < w'.heap.size := by have := hb.size; simp at this; omega
      go_wp2
      exact bodyPost_ret (v := .tuple #[.agg #[.int .i64 0, .slice none 0 0], .int .i64 15]) (by simp [results, Tryz.results22, go_sem, hc2, hc, hz]) rfl (gives_zero ((((((Below.refl _ _).alloc (Nat.le_refl _) _).alloc (by simp) _).trans (hb.mono (by simp; omega))).trans (hb2.mono (by omega))).setCell (by simp) _ |>.setCell (by simp) _))
    · rw [show plusE c vs n = 2 by simp [plusE, hvl, h0]]
      clear hvl hbad
      go_enter Tryz.func22, Tryz.ntmps22
      go_wp2_with fail
      refine (valid_any _ _ _ _ B _ hv2 (by simp; omega)).mono ?_
      rw [H.out]
      rintro e w' ⟨rfl, hb⟩
      obtain ⟨hc, hf⟩ := bcell hb
      go_wp2
      exact bodyPost_ret (v := .tuple #[.agg #[.int .i64 0, .slice none 0 0], .int .i64 2]) (by simp [results, Tryz.results22, go_sem, hc]) rfl (gives_zero (((((Below.refl _ _).alloc (Nat.le_refl _) _).alloc (by simp) _).trans (hb.mono (by simp; omega))).setCell (by simp) _ |>.setCell (by simp) _))

set_option maxRecDepth 100000 in
set_option maxHeartbeats 4000000 in
theorem plus_good (c : Int) (A : Option Addr) (cap : Nat) (vs : List (Int × Int)) (n : Int) (B : Nat) (w : World) (hv : VA w B A vs) (hB : B ≤ w.heap.size) (hvl : vldB c vs = true) (h0 : 0 ≤ n) (h1 : n ≤ 100 - leastI c vs) :
    Calls Tryz.prog 22 #[.agg #[.int .i64 c, .slice A vs.length cap], .int .i64 n] w (GivesLv (canonC (c + n) (plusVs n vs)) (plusVs n vs) 0 w) := by
  have hv2 := (hv.alloc hB (.cells #[.int .i64 c, .slice A vs.length cap] 24)).alloc (by simp; omega) (.cells #[.int .i64 0, .slice none 0 0] 24)
  have hlen := hv.len
  have hb16 := hv.1
  have hle := vldB_least hvl
  have hge := leastI_ge c vs
  obtain ⟨⟨hc0, hc100⟩, hok⟩ := vldB_parts hvl
  have HY : Hid (∀ (k : Nat) (x y : Int), vs[k]? = some (x, y) → 0 ≤ y ∧ y ≤ 100) := Lib.hid (fun k x y hk => (hok k x y (List.getElem?_eq_some_iff.1 hk).1 hk).1.2)
  have H := Lib.hid hvl
  clear hvl hge hok
  generalize hL : leastI c vs = L at hle h1
  have HL := Lib.hid hL
  clear hL
  obtain ⟨hl0, hl1⟩ := hle
  go_enter Tryz.func22, Tryz.ntmps22
  go_wp2_with fail
  refine (valid_any _ _ _ _ B _ hv2 (by simp; omega)).mono ?_
  rw [H.out]
  rintro e w1 ⟨rfl, hb⟩
  obtain ⟨hc, hf⟩ := bcell hb
  have hv3 := hv2.below hb (by simp; omega)
  have hz : w.heap.size + 1 < w1.heap.size := by have := hb.size; simp at this; omega
  have hy : w.heap.size < w1.heap.size := by omega
  go_wp2_with fail
  refine (least_any _ _ _ _ B _ hv3 (by omega)).mono ?_
  rw [HL.out]
  rintro e w2 ⟨rfl, hb2⟩
  obtain ⟨hc2, hf2⟩ := bcell hb2
  have hv4 := hv3.below hb2 (by omega)
  have hz2 : w.heap.size + 1 < w2.heap.size := by have := hb2.size; omega
  have hy2 : w.heap.size < w2.heap.size := by omega
  go_wp2_with fail
  refine (clone_any _ _ _ B _ hv4).mono ?_
  rintro e w3 ⟨v, rfl, hown, hb3⟩
  obtain ⟨hc3, hf3⟩ := bcell hb3
  have hz3 : w.heap.size + 1 < w3.heap.size := by have := hb3.size; omega
  have hy3 : w.heap.size < w3.heap.size := by omega
  obtain ⟨A', cap', rfl⟩ := hown.slice
  have hfr : Below w.heap.size w w3 := ((((((Below.refl _ _).alloc (Nat.le_refl _) _).alloc (by simp) _).trans (hb.mono (by simp; omega))).trans (hb2.mono (by omega))).trans (hb3.mono (by omega)))
  go_wp2_with fail
  go_loopw [26] (fun i wr => ∃ k : Nat, k ≤ vs.length ∧ i = .int .i64 k ∧ Own2 wr w2.heap.size (.slice A' vs.length cap') (mixVs n vs k) ∧ Below w2.heap.size w3 wr) (fun i _ => vs.length - (intOf i).toNat)
  case atStart => exact ⟨0, Nat.zero_le _, rfl, by rw [mixVs_zero]; exact hown, Below.refl _ _⟩
  case round =>
    obtain ⟨k, hk, rfl, ho, hbw⟩ := hrel
    by_cases hlt : k < vs.length
    · obtain ⟨g, rfl, hg, _⟩ := ho.at_ (by rw [mixVs_length]; omega)
      obtain ⟨x, y, hxy⟩ : ∃ x y, vs[k]? = some (x, y) := ⟨vs[k].1, vs[k].2, List.getElem?_eq_getElem hlt⟩
      obtain ⟨hy0, hy1⟩ := HY.out k x y hxy
      have ho' : wr.ownsRow w2.heap.size 69 2 (.slice (some ⟨g, 0, none⟩) vs.length cap') vs.length (flat (mixVs n vs k)) := by have h := ho; unfold Own2 at h; rwa [mixVs_length] at h
      have hcell : wr.cell? ⟨g, k * 2 + 1, none⟩ = some (.int .i64 y) := (ho'.cellAt (k * 2 + 1) (by omega)).trans (by rw [flat_odd, mixVs_at n vs k hlt, hxy]; rfl)
      have hfro : wr.frozen? ⟨g, k * 2 + 1, none⟩ = false := ho'.frozenAt (k * 2 + 1)
      have hst := (ho'.stored (k * 2 + 1) (.int .i64 (y + n))).1
      rw [flat_set_odd _ k x y (y + n) ((mixVs_at n vs k hlt).trans hxy), mixVs_set n vs k x y hxy] at hst
      have HS := Lib.hid hst
      have HO := Lib.hid ho'
      clear hst ho' ho hxy
      go_wp2
      go_roundw
      case rel => exact ⟨k + 1, by omega, by go_num, by unfold Own2; rw [mixVs_length]; exact HS.out, hbw.setCell hg _⟩
      case measure => simp [intOf]; omega
    · obtain rfl : k = vs.length := by omega
      rw [mixVs_end] at ho
      have hva := ho.va (by rw [plusVs_length]; omega)
      have hcan := canonical_any (c + n) A' cap' (plusVs n vs) wr.heap.size wr hva (Nat.le_refl _)
      rw [plusVs_length] at hcan
      have HC := Lib.hid hcan
      have HV := Lib.hid hva
      have hgo : Hid (∀ (b off : Nat), 0 < (plusVs n vs).length → A' = some ⟨b, off, none⟩ → w2.heap.size ≤ b) := Lib.hid (fun b off hl e => by
        obtain ⟨g, e', hg, _⟩ := ho.at_ hl
        rw [e] at e'; cases e'; exact hg)
      have hbw3 : Below w2.heap.size w2 wr := hb3.trans hbw
      obtain ⟨hc5, hf5⟩ := bcell hbw3
      have hsz := hbw3.size
      have hz5 : w.heap.size + 1 < wr.heap.size := by omega
      have hy5 : w.heap.size < wr.heap.size := by omega
      clear hcan hva ho hc3 hf3
      go_wp2_with fail
      refine HC.out.mono ?_
      rintro e w6 ⟨rfl, hb6⟩
      obtain ⟨hc6, hf6⟩ := bcell hb6
      go_wp2
      refine bodyPost_ret (v := .tuple #[.agg #[.int .i64 (canonC (c + n) (plusVs n vs)), .slice A' vs.length cap'], .int .i64 0]) (by simp [results, Tryz.results22, go_sem, hc6, hc5, hc2, hc, hz5, hz2, hz]) rfl ?_
      have hfin : Below w.heap.size w w6 := (hfr.trans (hbw.mono (by omega))).trans (hb6.mono (by omega))
      refine ⟨A', cap', by rw [plusVs_length], ?_, (hfin.setCell (by simp) _).setCell (by simp) _⟩
      have hva6 := HV.out.below hb6 (Nat.le_refl _)
      refine VA.more (B := w6.heap.size) ?_ (by simp)
      exact ((hva6.more hb6.size).setCell (p := ⟨w.heap.size + 1, 0, none⟩) (fun b off hl e => by have := hgo.out b off hl e; show b ≠ w.heap.size + 1; omega) _).setCell (p := ⟨w.heap.size + 1, 1, none⟩) (fun b off hl e => by have := hgo.out b off hl e; show b ≠ w.heap.size + 1; omega) _

theorem plus_any (c : Int) (A : Option Addr) (cap : Nat) (vs : List (Int × Int)) (n : Int) (B : Nat) (w : World) (hv : VA w B A vs) (hB : B ≤ w.heap.size) :
    Calls Tryz.prog 22 #[.agg #[.int .i64 c, .slice A vs.length cap], .int .i64 n] w (GivesLv (plusC c vs n) (plusV c vs n) (plusE c vs n) w) := by
  cases h : plusOk c vs n with
  | false =>
    rw [show plusC c vs n = 0 by simp [plusC, h], show plusV c vs n = [] by simp [plusV, h]]
    exact plus_bad c A cap vs n B w hv hB h
  | true =>
    have h' := h
    simp only [plusOk, Bool.and_eq_true, decide_eq_true_eq] at h'
    rw [show plusC c vs n = canonC (c + n) (plusVs n vs) by simp [plusC, h], show plusV c vs n = plusVs n vs by simp [plusV, h], show plusE c vs n = 0 by simp [plusE, h'.1, h'.2.1, h'.2.2]]
    exact plus_good c A cap vs n B w hv hB h'.1 h'.2.1 h'.2.2
end Go.Proofs.YtipnabbdhmapkaaGreatDoor
