/- The reference: join. -/
import Derived.Test.YtipnabbdhmapkaaGreatDoorRef
import Derived.Test.YtipnabbdhmapkaaGreatDoorOut
import Derived.Test.YtipnabbdhmapkaaGreatDoorTxt
import Derived.Test.YtipnabbdhmapkaaGreatDoorMax
import Derived.Test.YtipnabbdhmapkaaGreatDoorMrg
import Derived.Deep.RegionHeld3
import Derived.Deep.DeepCutAuto
namespace Go.Proofs.YtipnabbdhmapkaaGreatDoor
open Go.RowKit

/-- The call returns the level (c, vs), whose list is new memory. -/
def GivesLN (c : Int) (vs : List (Int × Int)) (w : World) (e : Ending) (w' : World) : Prop :=
  ∃ A cap, e = .returned (.agg #[.int .i64 c, .slice A vs.length cap]) ∧ VA w' w'.heap.size A vs ∧ Below w.heap.size w w' ∧ ∀ b off, 0 < vs.length → A = some ⟨b, off, none⟩ → w.heap.size ≤ b
/-- The greatest offset, at least 0. -/
def mostI (vs : List (Int × Int)) : Int := leastI 0 vs
theorem mostI_snoc (vs : List (Int × Int)) (p : Int × Int) : mostI (vs ++ [p]) = max (mostI vs) p.2 := by
  unfold mostI leastI
  rw [List.foldl_append]
  rfl
theorem most_ge : ∀ (vs : List (Int × Int)) (c k : Int), k ≤ leastI c vs ↔ k ≤ c ∨ ∃ p ∈ vs, k ≤ p.2
  | [], c, k => by simp [leastI]
  | p :: r, c, k => by
    have h := most_ge r (max c p.2) k
    have e : leastI c (p :: r) = leastI (max c p.2) r := rfl
    rw [e, h]
    constructor
    · rintro (h1 | ⟨q, hq, h1⟩)
      · by_cases h2 : k ≤ c
        · exact .inl h2
        · exact .inr ⟨p, List.mem_cons_self, by omega⟩
      · exact .inr ⟨q, List.mem_cons_of_mem _ hq, h1⟩
    · rintro (h1 | ⟨q, hq, h1⟩)
      · exact .inl (by omega)
      · rcases List.mem_cons.1 hq with rfl | hq
        · exact .inl (by omega)
        · exact .inr ⟨q, hq, h1⟩
/-- What the reference does with the constant. -/
theorem join_const {m : Int} (hm : 0 ≤ m) (vs : List (Int × Int)) : (if 0 < vs.length ∧ m ≤ mostI vs then 0 else m) = canonC m vs := by
  unfold canonC
  cases h : covB m vs with
  | true =>
    obtain ⟨p, hp, h1⟩ := List.any_eq_true.1 h
    have hl : 0 < vs.length := List.length_pos_of_mem hp
    have h2 : m ≤ mostI vs := (most_ge vs 0 m).2 (.inr ⟨p, hp, by simpa using h1⟩)
    simp [hl, h2]
  | false =>
    by_cases hc : 0 < vs.length ∧ m ≤ mostI vs
    · rw [if_pos hc]
      rcases (most_ge vs 0 m).1 hc.2 with h1 | ⟨p, hp, h1⟩
      · simp; omega
      · have := List.any_eq_false.1 h p hp
        simp at this
        omega
    · rw [if_neg hc]
      simp

set_option maxRecDepth 100000 in
set_option maxHeartbeats 8000000 in
theorem rjoin_any (c1 : Int) (A1 : Option Addr) (cap1 : Nat) (v1 : List (Int × Int)) (c2 : Int) (A2 : Option Addr) (cap2 : Nat) (v2 : List (Int × Int)) (B : Nat) (w : World) (hv1 : VA w B A1 v1) (hv2 : VA w B A2 v2) (hB : B ≤ w.heap.size) (hl1 : v1.length ≤ 1000000) (hl2 : v2.length ≤ 1000000)
    (h1 : 0 ≤ c1) (h2 : 0 ≤ c2) (m : Int) (hm : (if c1 < c2 then c2 else c1) = m) :
    Calls Tryz.prog 54 #[.agg #[.int .i64 c1, .slice A1 v1.length cap1], .agg #[.int .i64 c2, .slice A2 v2.length cap2]] w (GivesLN (canonC m (mg v1 v2)) (mg v1 v2) w) := by
  obtain ⟨i0, hi, hz0, hz1, hz2⟩ := info_parts info62
  obtain ⟨W0, hW0⟩ : ∃ W0 : World, W0 = ((w.alloc (.cells #[.int .i64 c1, .slice A1 v1.length cap1] 24)).alloc (.cells #[.int .i64 c2, .slice A2 v2.length cap2] 24)).alloc (.cells #[.int .i64 0, .slice none 0 0] 24) := ⟨_, rfl⟩
  have hb0 : Below w.heap.size w W0 := by subst hW0; exact (((Below.refl _ _).alloc (Nat.le_refl _) _).alloc (by simp) _).alloc (by simp; omega) _
  have hs0 : W0.heap.size = w.heap.size + 3 := by subst hW0; simp
  have k0 : W0.cell? ⟨w.heap.size, 0, none⟩ = some (.int .i64 c1) := by subst hW0; go_simp
  have k1 : W0.cell? ⟨w.heap.size, 1, none⟩ = some (.slice A1 v1.length cap1) := by subst hW0; go_simp
  have k2 : W0.cell? ⟨w.heap.size + 1, 0, none⟩ = some (.int .i64 c2) := by subst hW0; go_simp
  have k3 : W0.cell? ⟨w.heap.size + 1, 1, none⟩ = some (.slice A2 v2.length cap2) := by subst hW0; go_simp
  have k4 : W0.cell? ⟨w.heap.size + 1 + 1, 0, none⟩ = some (.int .i64 0) := by subst hW0; go_simp
  have k5 : W0.cell? ⟨w.heap.size + 1 + 1, 1, none⟩ = some (.slice none 0 0) := by subst hW0; go_simp
  have k6 : W0.frozen? ⟨w.heap.size + 1 + 1, 0, none⟩ = false := by subst hW0; go_simp
  have k7 : W0.frozen? ⟨w.heap.size + 1 + 1, 1, none⟩ = false := by subst hW0; go_simp
  have HK := Lib.hid (show ∀ W, Below W0.heap.size W0 W → (W.cell? ⟨w.heap.size, 1, none⟩ = some (.slice A1 v1.length cap1) ∧ W.cell? ⟨w.heap.size + 1, 1, none⟩ = some (.slice A2 v2.length cap2)) ∧ (W.cell? ⟨w.heap.size + 1 + 1, 0, none⟩ = some (.int .i64 0) ∧ W.cell? ⟨w.heap.size + 1 + 1, 1, none⟩ = some (.slice none 0 0)) ∧ (W.frozen? ⟨w.heap.size + 1 + 1, 0, none⟩ = false ∧ W.frozen? ⟨w.heap.size + 1 + 1, 1, none⟩ = false) ∧ (VA W B A1 v1 ∧ VA W B A2 v2) ∧ Below w.heap.size w W from fun W hb => by
    obtain ⟨hc, hf⟩ := bcell hb
    have hbw := hb0.trans (hb.mono hb0.size)
    exact ⟨⟨(hc _ _ (by omega)).trans k1, (hc _ _ (by omega)).trans k3⟩, ⟨(hc _ _ (by omega)).trans k4, (hc _ _ (by omega)).trans k5⟩, ⟨(hf _ _ (by omega)).trans k6, (hf _ _ (by omega)).trans k7⟩, ⟨hv1.below hbw hB, hv2.below hbw hB⟩, hbw⟩)
  have HS0 := Lib.hid hs0
  have hlt0 : w.heap.size < W0.heap.size := by omega
  have hlt1 : w.heap.size + 1 < W0.heap.size := by omega
  have hlt2 : w.heap.size + 1 + 1 < W0.heap.size := by omega
  have hBW : B ≤ W0.heap.size := by omega
  have HM := Lib.hid hm
  clear hv1 hv2 hb0 hs0 k4 k5 k6 k7 hm
  go_enter Tryz.func54, Tryz.ntmps54
  go_upto_region 1 with fail
  rw [← hW0]
  clear hW0
  have hmx : max c1 c2 = m := by
    rw [← HM.out]
    split <;> omega
  have hm0 : 0 ≤ m := by omega
  go_upto_region 2 with fail

  have HMX := Lib.hid (And.intro hmx hm0)
  clear hmx hm0 k0 k1 k2 k3
  obtain ⟨W1, hW1⟩ : ∃ W1 : World, W1 = W0.alloc (.cells #[.int .i64 m, .slice none 0 0] 24) := ⟨_, rfl⟩
  rw [← hW1]
  have O1 : Hid (OX W1 W0.heap.size m [] (.slice none 0 0) ∧ Below W0.heap.size W0 W1) := Lib.hid (by rw [hW1]; exact ⟨OX.start W0 m, (Below.refl _ _).alloc (Nat.le_refl _) _⟩)
  clear hW1
  go_wp2
  go_loopw [6, 7, 8] (fun p q r wr => ∃ (i j : Nat) (pre : List (Int × Int)) (v : Value), i ≤ v1.length ∧ j ≤ v2.length ∧ p = .int .i64 i ∧ q = .int .i64 j ∧ r = .int .i64 (mostI pre) ∧ Hid (pre ++ mg (v1.drop i) (v2.drop j) = mg v1 v2) ∧ OX wr W0.heap.size m pre v ∧ Below W0.heap.size W0 wr)
    (fun p q _ _ => (v1.length - (intOf p).toNat) + (v2.length - (intOf q).toNat))
  case atStart => exact ⟨0, 0, [], _, Nat.zero_le _, Nat.zero_le _, rfl, rfl, rfl, Lib.hid (by simp), O1.out.1, O1.out.2⟩
  case round =>
    obtain ⟨i, j, pre, v, hi1, hj1, rfl, rfl, rfl, hx, hO, hB1⟩ := hrel
    obtain ⟨⟨x1, y1⟩, ⟨r0, r1⟩, ⟨f0, f1⟩, ⟨hva, hvb⟩, _⟩ := HK.out _ hB1
    have hsr := hB1.size
    have hpl : pre.length ≤ 2000000 := by
      have h7 := congrArg List.length hx.out
      have h8 := mg_length v1 v2
      simp only [List.length_append] at h7
      omega
    have hBr : B ≤ wr.heap.size := by omega
    have x1a : ∀ o, (wr.alloc o).cell? ⟨w.heap.size, 1, none⟩ = some (.slice A1 v1.length cap1) := fun o => (World.cell?_alloc_lt wr o ⟨w.heap.size, 1, none⟩ (by show w.heap.size < wr.heap.size; omega)).trans x1
    have y1a : ∀ o, (wr.alloc o).cell? ⟨w.heap.size + 1, 1, none⟩ = some (.slice A2 v2.length cap2) := fun o => (World.cell?_alloc_lt wr o ⟨w.heap.size + 1, 1, none⟩ (by show w.heap.size + 1 < wr.heap.size; omega)).trans y1
    by_cases hia : i < v1.length
    · obtain ⟨ba, oa, xa, ya, hAa, hba, hga, ha0, ha1, ha0a, ha1a⟩ := hva.ata hBr hia
      have hGA := Lib.hid hga
      clear hga
      by_cases hjb : j < v2.length
      · obtain ⟨bb, ob, xb, yb, hAb, hbb, hgb, hb0, hb1, hb0a, hb1a⟩ := hvb.ata hBr hjb
        have hGB := Lib.hid hgb
        clear hgb hva hvb
        have ej : ((j : Int) == (v2.length : Int)) = false := by rw [beq_eq_false_iff_ne]; omega
        by_cases hlt : xa < xb
        · have hx' := hx.out
          rw [mg_left hGA.out hGB.out hlt] at hx'
          have HX := Lib.hid (And.intro hO (And.intro hB1 hx'))
          clear hx hO hB1
          subst hAa
          subst hAb
          go_wp2
          go_quiet (fail)
          go_upto_region 15 with fail
          obtain ⟨W2, hW2⟩ : ∃ W2 : World, W2 = (((wr.alloc (.cells #[.int .i64 0, .int .i64 0] 69)).drewN nq).setCell ⟨wr.heap.size, 0, none⟩ (.int .i64 xa)).setCell ⟨wr.heap.size, 1, none⟩ (.int .i64 ya) := ⟨_, rfl⟩
          have hg2 : wr.grownBy W2 none := by rw [hW2]; exact grown_var _ _ _ _ _
          have b0 : W2.cell? ⟨wr.heap.size, 0, none⟩ = some (.int .i64 xa) := by rw [hW2]; go_simp
          have b1 : W2.cell? ⟨wr.heap.size, 1, none⟩ = some (.int .i64 ya) := by rw [hW2]; go_simp
          have hl2' : wr.heap.size < W2.heap.size := by rw [hW2]; simp
          rw [← hW2]
          clear hW2
          have hb2 : Below wr.heap.size wr W2 := below_grown hg2 (Nat.le_refl _)
          have HO2 := Lib.hid (And.intro (HX.out.1.below hb2) (HX.out.2.1.trans (hb2.mono HX.out.2.1.size)))
          have o1 := HO2.out.1.c1
          have ol := HO2.out.1.lt
          have hms := Lib.hid (mostI_snoc pre (xa, ya))
          have HR := Lib.hid hx'
          clear hb2 hg2 hx'
          generalize hmo : mostI pre = mo at *
          go_wp2_with (at_builtin; refine wpList_append_own _ rfl _ _ 22 rfl (W0.heap.size + 1) 69 i0 (.agg #[.int .i64 0, .int .i64 0]) 2 16 Tryz.underlying22 hi hz0 hz1 hz2 rfl (by decide) _ _ _ rfl (HO2.out.1.alloc _).own ⟨W2.heap.size, 0, none⟩ 1 1 [.int .i64 xa, .int .i64 ya] rfl rfl (cell_two_new W2 (.int .i64 xa) (.int .i64 ya) 69) (by intro u hu; simp at hu; rcases hu with rfl | rfl <;> rfl) (by unfold maxLen; omega) (by omega) (by simp; omega) ?_)
          intro v' w5 hown' hgrow _
          obtain ⟨g', cap', rfl⟩ := ownsRow_succ hown'
          obtain ⟨⟨q0, q1⟩, q2⟩ := (HO2.out.1.alloc _).grown hgrow
          have HN := Lib.hid (And.intro hown' hgrow)
          clear hown' hgrow
          go_wp2
          go_roundw
          case rel => exact ⟨i + 1, j, pre ++ [(xa, ya)], .slice (some ⟨g', 0, none⟩) (pre.length + 1) cap', by omega, by omega, by go_num, by go_num, congrArg (Value.int .i64) (by rw [hms.out]), Lib.hid (by rw [← HR.out]; simp), OX.push (p := (xa, ya)) (HO2.out.1.alloc _) HN.out.2 HN.out.1, (Below.grown (HO2.out.2.alloc HO2.out.2.size _) HN.out.2 (by have := HO2.out.2.size; simp; omega) (fun r e => by have := (World.ownsRow.lt HO2.out.1.own r e).1; omega)).setCell (Nat.le_refl _) _⟩
          case measure => simp [intOf]; omega
        · by_cases hgt : xb < xa
          · have hx' := hx.out
            rw [mg_right hGA.out hGB.out hgt] at hx'
            have HX := Lib.hid (And.intro hO (And.intro hB1 hx'))
            have ei : ((i : Int) == (v1.length : Int)) = false := by rw [beq_eq_false_iff_ne]; omega
            have dxaxb : decide ((xa : Int) < xb) = false := by simp; omega
            clear hx hO hB1
            subst hAa
            subst hAb
            go_wp2
            go_quiet (fail)
            revert nq
            intro q1
            go_wp2
            go_quiet (fail)
            revert nq
            intro q2
            go_upto_region 15 with fail
            obtain ⟨W2, hW2⟩ : ∃ W2 : World, W2 = (((wr.alloc (.cells #[.int .i64 0, .int .i64 0] 69)).drewN (q1 + q2)).setCell ⟨wr.heap.size, 0, none⟩ (.int .i64 xb)).setCell ⟨wr.heap.size, 1, none⟩ (.int .i64 yb) := ⟨_, rfl⟩
            have hg2 : wr.grownBy W2 none := by rw [hW2]; exact grown_var _ _ _ _ _
            have b0 : W2.cell? ⟨wr.heap.size, 0, none⟩ = some (.int .i64 xb) := by rw [hW2]; go_simp
            have b1 : W2.cell? ⟨wr.heap.size, 1, none⟩ = some (.int .i64 yb) := by rw [hW2]; go_simp
            have hl2' : wr.heap.size < W2.heap.size := by rw [hW2]; simp
            rw [← hW2]
            clear hW2
            have hb2 : Below wr.heap.size wr W2 := below_grown hg2 (Nat.le_refl _)
            have HO2 := Lib.hid (And.intro (HX.out.1.below hb2) (HX.out.2.1.trans (hb2.mono HX.out.2.1.size)))
            have o1 := HO2.out.1.c1
            have ol := HO2.out.1.lt
            have hms := Lib.hid (mostI_snoc pre (xb, yb))
            have HR := Lib.hid hx'
            clear hb2 hg2 hx'
            generalize hmo : mostI pre = mo at *
            go_wp2_with (at_builtin; refine wpList_append_own _ rfl _ _ 22 rfl (W0.heap.size + 1) 69 i0 (.agg #[.int .i64 0, .int .i64 0]) 2 16 Tryz.underlying22 hi hz0 hz1 hz2 rfl (by decide) _ _ _ rfl (HO2.out.1.alloc _).own ⟨W2.heap.size, 0, none⟩ 1 1 [.int .i64 xb, .int .i64 yb] rfl rfl (cell_two_new W2 (.int .i64 xb) (.int .i64 yb) 69) (by intro u hu; simp at hu; rcases hu with rfl | rfl <;> rfl) (by unfold maxLen; omega) (by omega) (by simp; omega) ?_)
            intro v' w5 hown' hgrow _
            obtain ⟨g', cap', rfl⟩ := ownsRow_succ hown'
            obtain ⟨⟨q0, q1⟩, q2⟩ := (HO2.out.1.alloc _).grown hgrow
            have HN := Lib.hid (And.intro hown' hgrow)
            clear hown' hgrow
            go_wp2
            go_roundw
            case rel => exact ⟨i, j + 1, pre ++ [(xb, yb)], .slice (some ⟨g', 0, none⟩) (pre.length + 1) cap', by omega, by omega, by go_num, by go_num, congrArg (Value.int .i64) (by rw [hms.out]), Lib.hid (by rw [← HR.out]; simp), OX.push (p := (xb, yb)) (HO2.out.1.alloc _) HN.out.2 HN.out.1, (Below.grown (HO2.out.2.alloc HO2.out.2.size _) HN.out.2 (by have := HO2.out.2.size; simp; omega) (fun r e => by have := (World.ownsRow.lt HO2.out.1.own r e).1; omega)).setCell (Nat.le_refl _) _⟩
            case measure => simp [intOf]; omega
          · obtain rfl : xa = xb := by omega
            obtain ⟨ym, hym⟩ : ∃ ym : Int, (if ya < yb then yb else ya) = ym := ⟨_, rfl⟩
            have hmax : max ya yb = ym := by rw [← hym]; split <;> omega
            have hx' := hx.out
            rw [mg_both hGA.out hGB.out rfl, hym] at hx'
            have HX := Lib.hid (And.intro hO (And.intro hB1 hx'))
            have ei : ((i : Int) == (v1.length : Int)) = false := by rw [beq_eq_false_iff_ne]; omega
            have HYM := Lib.hid hym
            clear hx hO hB1 hym
            subst hAa
            subst hAb
            have KS := Lib.hid (show ∀ w' : World, (∀ i : Nat, i < wr.heap.size → w'.heap[i]? = wr.heap[i]?) → w'.cell? ⟨w.heap.size, 1, none⟩ = some (.slice (some ⟨ba, oa, none⟩) v1.length cap1) ∧ w'.cell? ⟨w.heap.size + 1, 1, none⟩ = some (.slice (some ⟨bb, ob, none⟩) v2.length cap2) ∧ w'.cell? ⟨ba, oa + i * 2, none⟩ = some (.int .i64 xa) ∧ w'.cell? ⟨ba, oa + i * 2 + 1, none⟩ = some (.int .i64 ya) ∧ w'.cell? ⟨bb, ob + j * 2 + 1, none⟩ = some (.int .i64 yb) from fun w' he => by
              have hc : ∀ (i o : Nat), i < wr.heap.size → w'.cell? ⟨i, o, none⟩ = wr.cell? ⟨i, o, none⟩ := fun i o h => World.cell?_of_block (a := ⟨i, o, none⟩) (he i h)
              exact ⟨(hc _ _ (by omega)).trans x1, (hc _ _ (by omega)).trans y1, (hc _ _ (by omega)).trans ha0, (hc _ _ (by omega)).trans ha1, (hc _ _ (by omega)).trans hb1⟩)
            go_wp2
            go_quiet (fail)
            revert nq
            intro q1
            go_wp2
            go_quiet (fail)
            revert nq
            intro q2
            go_wp2_with fail
            go_region_held3 (fun w' => w'.cell? ⟨w.heap.size, 1, none⟩ = some (.slice (some ⟨ba, oa, none⟩) v1.length cap1) ∧ w'.cell? ⟨w.heap.size + 1, 1, none⟩ = some (.slice (some ⟨bb, ob, none⟩) v2.length cap2) ∧ w'.cell? ⟨ba, oa + i * 2, none⟩ = some (.int .i64 xa) ∧ w'.cell? ⟨ba, oa + i * 2 + 1, none⟩ = some (.int .i64 ya) ∧ w'.cell? ⟨bb, ob + j * 2 + 1, none⟩ = some (.int .i64 yb))
              (first
                | exact KS.out _ (fun i h => Below.heap_alloc wr _ i h)
                | exact KS.out _ (fun i h => (Below.heap_setCell _ ⟨wr.heap.size, 1, none⟩ _ i (by show i ≠ wr.heap.size; omega)).trans ((Below.heap_setCell _ ⟨wr.heap.size, 0, none⟩ _ i (by show i ≠ wr.heap.size; omega)).trans (Below.heap_alloc wr _ i h))))
              (first | fail)
            go_upto_region 15 with fail
            obtain ⟨W2, hW2⟩ : ∃ W2 : World, W2 = (((wr.alloc (.cells #[.int .i64 0, .int .i64 0] 69)).drewN (q1 + q2 + 1)).setCell ⟨wr.heap.size, 0, none⟩ (.int .i64 xa)).setCell ⟨wr.heap.size, 1, none⟩ (.int .i64 ym) := ⟨_, rfl⟩
            have hg2 : wr.grownBy W2 none := by rw [hW2]; exact grown_var _ _ _ _ _
            have b0 : W2.cell? ⟨wr.heap.size, 0, none⟩ = some (.int .i64 xa) := by rw [hW2]; go_simp
            have b1 : W2.cell? ⟨wr.heap.size, 1, none⟩ = some (.int .i64 ym) := by rw [hW2]; go_simp
            have hl2' : wr.heap.size < W2.heap.size := by rw [hW2]; simp
            rw [← hW2]
            clear hW2
            have hb2 : Below wr.heap.size wr W2 := below_grown hg2 (Nat.le_refl _)
            have HO2 := Lib.hid (And.intro (HX.out.1.below hb2) (HX.out.2.1.trans (hb2.mono HX.out.2.1.size)))
            have o1 := HO2.out.1.c1
            have ol := HO2.out.1.lt
            have hms := Lib.hid (mostI_snoc pre (xa, ym))
            have HR := Lib.hid hx'
            clear hb2 hg2 hx'
            generalize hmo : mostI pre = mo at *
            go_wp2_with (at_builtin; refine wpList_append_own _ rfl _ _ 22 rfl (W0.heap.size + 1) 69 i0 (.agg #[.int .i64 0, .int .i64 0]) 2 16 Tryz.underlying22 hi hz0 hz1 hz2 rfl (by decide) _ _ _ rfl (HO2.out.1.alloc _).own ⟨W2.heap.size, 0, none⟩ 1 1 [.int .i64 xa, .int .i64 ym] rfl rfl (cell_two_new W2 (.int .i64 xa) (.int .i64 ym) 69) (by intro u hu; simp at hu; rcases hu with rfl | rfl <;> rfl) (by unfold maxLen; omega) (by omega) (by simp; omega) ?_)
            intro v' w5 hown' hgrow _
            obtain ⟨g', cap', rfl⟩ := ownsRow_succ hown'
            obtain ⟨⟨q0, q1⟩, q2⟩ := (HO2.out.1.alloc _).grown hgrow
            have HN := Lib.hid (And.intro hown' hgrow)
            clear hown' hgrow
            go_wp2
            go_roundw
            case rel => exact ⟨i + 1, j + 1, pre ++ [(xa, ym)], .slice (some ⟨g', 0, none⟩) (pre.length + 1) cap', by omega, by omega, by go_num, by go_num, congrArg (Value.int .i64) (by rw [hms.out]), Lib.hid (by rw [← HR.out]; simp), OX.push (p := (xa, ym)) (HO2.out.1.alloc _) HN.out.2 HN.out.1, (Below.grown (HO2.out.2.alloc HO2.out.2.size _) HN.out.2 (by have := HO2.out.2.size; simp; omega) (fun r e => by have := (World.ownsRow.lt HO2.out.1.own r e).1; omega)).setCell (Nat.le_refl _) _⟩
            case measure => simp [intOf]; omega
      · obtain rfl : j = v2.length := by omega
        have hx' := hx.out
        rw [mg_left_end hGA.out (Nat.le_refl _)] at hx'
        have HX := Lib.hid (And.intro hO (And.intro hB1 hx'))
        clear hx hO hB1
        subst hAa
        go_wp2
        go_quiet (fail)
        go_upto_region 15 with fail
        obtain ⟨W2, hW2⟩ : ∃ W2 : World, W2 = (((wr.alloc (.cells #[.int .i64 0, .int .i64 0] 69)).drewN nq).setCell ⟨wr.heap.size, 0, none⟩ (.int .i64 xa)).setCell ⟨wr.heap.size, 1, none⟩ (.int .i64 ya) := ⟨_, rfl⟩
        have hg2 : wr.grownBy W2 none := by rw [hW2]; exact grown_var _ _ _ _ _
        have b0 : W2.cell? ⟨wr.heap.size, 0, none⟩ = some (.int .i64 xa) := by rw [hW2]; go_simp
        have b1 : W2.cell? ⟨wr.heap.size, 1, none⟩ = some (.int .i64 ya) := by rw [hW2]; go_simp
        have hl2' : wr.heap.size < W2.heap.size := by rw [hW2]; simp
        rw [← hW2]
        clear hW2
        have hb2 : Below wr.heap.size wr W2 := below_grown hg2 (Nat.le_refl _)
        have HO2 := Lib.hid (And.intro (HX.out.1.below hb2) (HX.out.2.1.trans (hb2.mono HX.out.2.1.size)))
        have o1 := HO2.out.1.c1
        have ol := HO2.out.1.lt
        have hms := Lib.hid (mostI_snoc pre (xa, ya))
        have HR := Lib.hid hx'
        clear hb2 hg2 hx'
        generalize hmo : mostI pre = mo at *
        go_wp2_with (at_builtin; refine wpList_append_own _ rfl _ _ 22 rfl (W0.heap.size + 1) 69 i0 (.agg #[.int .i64 0, .int .i64 0]) 2 16 Tryz.underlying22 hi hz0 hz1 hz2 rfl (by decide) _ _ _ rfl (HO2.out.1.alloc _).own ⟨W2.heap.size, 0, none⟩ 1 1 [.int .i64 xa, .int .i64 ya] rfl rfl (cell_two_new W2 (.int .i64 xa) (.int .i64 ya) 69) (by intro u hu; simp at hu; rcases hu with rfl | rfl <;> rfl) (by unfold maxLen; omega) (by omega) (by simp; omega) ?_)
        intro v' w5 hown' hgrow _
        obtain ⟨g', cap', rfl⟩ := ownsRow_succ hown'
        obtain ⟨⟨q0, q1⟩, q2⟩ := (HO2.out.1.alloc _).grown hgrow
        have HN := Lib.hid (And.intro hown' hgrow)
        clear hown' hgrow
        go_wp2
        go_roundw
        case rel => exact ⟨i + 1, v2.length, pre ++ [(xa, ya)], .slice (some ⟨g', 0, none⟩) (pre.length + 1) cap', by omega, by omega, by go_num, by go_num, congrArg (Value.int .i64) (by rw [hms.out]), Lib.hid (by rw [← HR.out]; simp), OX.push (p := (xa, ya)) (HO2.out.1.alloc _) HN.out.2 HN.out.1, (Below.grown (HO2.out.2.alloc HO2.out.2.size _) HN.out.2 (by have := HO2.out.2.size; simp; omega) (fun r e => by have := (World.ownsRow.lt HO2.out.1.own r e).1; omega)).setCell (Nat.le_refl _) _⟩
        case measure => simp [intOf]; omega
    · obtain rfl : i = v1.length := by omega
      by_cases hjb : j < v2.length
      · obtain ⟨bb, ob, xb, yb, hAb, hbb, hgb, hb0, hb1, hb0a, hb1a⟩ := hvb.ata hBr hjb
        have hGB := Lib.hid hgb
        clear hgb hva hvb
        have ej : ((j : Int) == (v2.length : Int)) = false := by rw [beq_eq_false_iff_ne]; omega
        have hx' := hx.out
        rw [mg_right_end hGB.out (Nat.le_refl _)] at hx'
        have HX := Lib.hid (And.intro hO (And.intro hB1 hx'))
        clear hx hO hB1
        subst hAb
        go_wp2
        go_quiet (fail)
        revert nq
        intro q1
        go_wp2
        go_quiet (fail)
        revert nq
        intro q2
        go_upto_region 15 with fail
        obtain ⟨W2, hW2⟩ : ∃ W2 : World, W2 = (((wr.alloc (.cells #[.int .i64 0, .int .i64 0] 69)).drewN (q1 + q2)).setCell ⟨wr.heap.size, 0, none⟩ (.int .i64 xb)).setCell ⟨wr.heap.size, 1, none⟩ (.int .i64 yb) := ⟨_, rfl⟩
        have hg2 : wr.grownBy W2 none := by rw [hW2]; exact grown_var _ _ _ _ _
        have b0 : W2.cell? ⟨wr.heap.size, 0, none⟩ = some (.int .i64 xb) := by rw [hW2]; go_simp
        have b1 : W2.cell? ⟨wr.heap.size, 1, none⟩ = some (.int .i64 yb) := by rw [hW2]; go_simp
        have hl2' : wr.heap.size < W2.heap.size := by rw [hW2]; simp
        rw [← hW2]
        clear hW2
        have hb2 : Below wr.heap.size wr W2 := below_grown hg2 (Nat.le_refl _)
        have HO2 := Lib.hid (And.intro (HX.out.1.below hb2) (HX.out.2.1.trans (hb2.mono HX.out.2.1.size)))
        have o1 := HO2.out.1.c1
        have ol := HO2.out.1.lt
        have hms := Lib.hid (mostI_snoc pre (xb, yb))
        have HR := Lib.hid hx'
        clear hb2 hg2 hx'
        generalize hmo : mostI pre = mo at *
        go_wp2_with (at_builtin; refine wpList_append_own _ rfl _ _ 22 rfl (W0.heap.size + 1) 69 i0 (.agg #[.int .i64 0, .int .i64 0]) 2 16 Tryz.underlying22 hi hz0 hz1 hz2 rfl (by decide) _ _ _ rfl (HO2.out.1.alloc _).own ⟨W2.heap.size, 0, none⟩ 1 1 [.int .i64 xb, .int .i64 yb] rfl rfl (cell_two_new W2 (.int .i64 xb) (.int .i64 yb) 69) (by intro u hu; simp at hu; rcases hu with rfl | rfl <;> rfl) (by unfold maxLen; omega) (by omega) (by simp; omega) ?_)
        intro v' w5 hown' hgrow _
        obtain ⟨g', cap', rfl⟩ := ownsRow_succ hown'
        obtain ⟨⟨q0, q1⟩, q2⟩ := (HO2.out.1.alloc _).grown hgrow
        have HN := Lib.hid (And.intro hown' hgrow)
        clear hown' hgrow
        go_wp2
        go_roundw
        case rel => exact ⟨v1.length, j + 1, pre ++ [(xb, yb)], .slice (some ⟨g', 0, none⟩) (pre.length + 1) cap', by omega, by omega, by go_num, by go_num, congrArg (Value.int .i64) (by rw [hms.out]), Lib.hid (by rw [← HR.out]; simp), OX.push (p := (xb, yb)) (HO2.out.1.alloc _) HN.out.2 HN.out.1, (Below.grown (HO2.out.2.alloc HO2.out.2.size _) HN.out.2 (by have := HO2.out.2.size; simp; omega) (fun r e => by have := (World.ownsRow.lt HO2.out.1.own r e).1; omega)).setCell (Nat.le_refl _) _⟩
        case measure => simp [intOf]; omega
      · obtain rfl : j = v2.length := by omega
        have hpre : pre = mg v1 v2 := by
          have h7 := hx.out
          rwa [mg_end (Nat.le_refl _) (Nat.le_refl _), List.append_nil] at h7
        obtain ⟨A3, cap3, rfl, hva3, hfr3⟩ := hO.va (by omega)
        have hjc := Lib.hid (join_const HMX.out.2 pre)
        have o0 := hO.c0
        have o1 := hO.c1
        have of0 := hO.fr 0
        have ol := hO.lt
        have HX := Lib.hid (And.intro hpre (And.intro hB1 (And.intro hva3 hfr3)))
        have hret := Lib.hid (show ∀ (W : World) (u0 u1 : Value), Below w.heap.size w W → VA W W.heap.size A3 pre → Below w.heap.size w ((W.setCell ⟨w.heap.size + 1 + 1, 0, none⟩ u0).setCell ⟨w.heap.size + 1 + 1, 1, none⟩ u1) ∧ VA ((W.setCell ⟨w.heap.size + 1 + 1, 0, none⟩ u0).setCell ⟨w.heap.size + 1 + 1, 1, none⟩ u1) ((W.setCell ⟨w.heap.size + 1 + 1, 0, none⟩ u0).setCell ⟨w.heap.size + 1 + 1, 1, none⟩ u1).heap.size A3 pre from fun W u0 u1 hb hv => by
          have hne : ∀ b off, 0 < pre.length → A3 = some ⟨b, off, none⟩ → b ≠ w.heap.size + 1 + 1 := fun b off h e => by have := hfr3 b off h e; omega
          refine ⟨(hb.setCell (p := ⟨w.heap.size + 1 + 1, 0, none⟩) (by show w.heap.size ≤ w.heap.size + 1 + 1; omega) u0).setCell (p := ⟨w.heap.size + 1 + 1, 1, none⟩) (by show w.heap.size ≤ w.heap.size + 1 + 1; omega) u1, ?_⟩
          have h9 := (hv.setCell (p := ⟨w.heap.size + 1 + 1, 0, none⟩) hne u0).setCell (p := ⟨w.heap.size + 1 + 1, 1, none⟩) hne u1
          simpa [World.setCell] using h9)
        have hbw := Lib.hid (HK.out _ hB1).2.2.2.2
        clear hpre hva3 hfr3 hO hB1 hx hva hvb
        by_cases hz1 : 0 < pre.length
        · have d1 : decide ((0 : Int) < (pre.length : Int)) = true := by simp; omega
          by_cases hz2 : m ≤ mostI pre
          · have hcc : Hid (canonC m pre = 0) := Lib.hid (by rw [← hjc.out, if_pos ⟨hz1, hz2⟩])
            have hva4 := Lib.hid (show VA (wr.setCell ⟨W0.heap.size, 0, none⟩ (.int .i64 0)) (wr.setCell ⟨W0.heap.size, 0, none⟩ (.int .i64 0)).heap.size A3 pre from by
              have h9 := HX.out.2.2.1.setCell (p := ⟨W0.heap.size, 0, none⟩) (fun b off h e => by have := HX.out.2.2.2 b off h e; show b ≠ W0.heap.size; omega) (.int .i64 0)
              simpa [World.setCell] using h9)
            have hb4 := Lib.hid (hbw.out.setCell (p := ⟨W0.heap.size, 0, none⟩) (by show w.heap.size ≤ W0.heap.size; omega) (.int .i64 0))
            generalize mostI pre = mo at *
            go_wp2
            refine bodyPost_ret (v := .agg #[.int .i64 0, .slice A3 pre.length cap3]) (by simp [results, Tryz.results54, go_sem, r0, r1]) rfl ?_
            rw [← HX.out.1, hcc.out]
            exact ⟨A3, cap3, rfl, (hret.out _ _ _ hb4.out hva4.out).2, (hret.out _ _ _ hb4.out hva4.out).1, fun b off h e => by have := HX.out.2.2.2 b off h e; omega⟩
          · have hcc : Hid (canonC m pre = m) := Lib.hid (by rw [← hjc.out, if_neg (fun h => hz2 h.2)])
            have d2 : decide (m ≤ mostI pre) = false := by simpa using hz2
            generalize mostI pre = mo at *
            go_wp2
            refine bodyPost_ret (v := .agg #[.int .i64 m, .slice A3 pre.length cap3]) (by simp [results, Tryz.results54, go_sem, r0, r1]) rfl ?_
            rw [← HX.out.1, hcc.out]
            exact ⟨A3, cap3, rfl, (hret.out _ _ _ hbw.out HX.out.2.2.1).2, (hret.out _ _ _ hbw.out HX.out.2.2.1).1, fun b off h e => by have := HX.out.2.2.2 b off h e; omega⟩
        · have hcc : Hid (canonC m pre = m) := Lib.hid (by rw [← hjc.out, if_neg (fun h => hz1 h.1)])
          have d1 : decide ((0 : Int) < (pre.length : Int)) = false := decide_eq_false (by omega)
          generalize mostI pre = mo at *
          go_wp2
          refine bodyPost_ret (v := .agg #[.int .i64 m, .slice A3 pre.length cap3]) (by simp [results, Tryz.results54, go_sem, r0, r1]) rfl ?_
          rw [← HX.out.1, hcc.out]
          exact ⟨A3, cap3, rfl, (hret.out _ _ _ hbw.out HX.out.2.2.1).2, (hret.out _ _ _ hbw.out HX.out.2.2.1).1, fun b off h e => by have := HX.out.2.2.2 b off h e; omega⟩
end Go.Proofs.YtipnabbdhmapkaaGreatDoor
