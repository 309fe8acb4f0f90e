/- The reference: Plus. -/
import Derived.Test.YtipnabbdhmapkaaGreatDoorRef
import Derived.Test.YtipnabbdhmapkaaGreatDoorOut
import Derived.Test.YtipnabbdhmapkaaGreatDoorTxt
import Derived.Deep.RegionLaw
import Derived.Deep.DeepCutAuto
import Derived.Test.YtipnabbdhmapkaaGreatDoorMax
namespace Go.Proofs.YtipnabbdhmapkaaGreatDoor
open Go.RowKit

theorem plusVs_take {n : Int} {vs : List (Int × Int)} {k : Nat} {x y : Int} (h : vs[k]? = some (x, y)) : plusVs n (vs.take (k + 1)) = plusVs n (vs.take k) ++ [(x, y + n)] := by
  unfold plusVs
  rw [List.take_add_one, h, Option.toList_some, List.map_append]
  rfl
/-- The constant that the reference reckons. -/
def rplC (c : Int) (vs : List (Int × Int)) (n : Int) : Int := if 0 < c ∨ vs.length = 0 then c + n else 0
theorem plusOk_no {c : Int} {vs : List (Int × Int)} {n : Int} (h : plusOk c vs n = false) : plusC c vs n = 0 ∧ plusV c vs n = [] := by simp [plusC, plusV, h]
theorem rpl_bad {c : Int} {vs : List (Int × Int)} {n : Int} {k : Nat} {x y : Int} (hv : vldB c vs = true) (h0 : 0 ≤ n) (hg : vs[k]? = some (x, y)) (hb : 100 < y + n) : plusOk c vs n = false ∧ plusE c vs n = 15 := by
  have h1 := (leastI_ge c vs).2 k x y hg
  have h2 : ¬ n ≤ 100 - leastI c vs := by omega
  have h3 : decide (n ≤ 100 - leastI c vs) = false := by simpa using h2
  constructor
  · simp [plusOk, h3]
  · simp [plusE, hv, h0, h2]
theorem rpl_badC {c : Int} {vs : List (Int × Int)} {n : Int} (hv : vldB c vs = true) (h0 : 0 ≤ n) (hb : 100 < c + n) : plusOk c vs n = false ∧ plusE c vs n = 15 := by
  have h1 := (leastI_ge c vs).1
  have h2 : ¬ n ≤ 100 - leastI c vs := by omega
  have h3 : decide (n ≤ 100 - leastI c vs) = false := by simpa using h2
  constructor
  · simp [plusOk, h3]
  · simp [plusE, hv, h0, h2]
theorem cov_of {c : Int} {vs : List (Int × Int)} (hv : vldB c vs = true) : c = 0 ∨ covB c vs = false := by
  simp only [vldB, Bool.and_eq_true, Bool.or_eq_true, decide_eq_true_eq, Bool.not_eq_true'] at hv
  exact hv.2.2
theorem cov_plus (c n : Int) (vs : List (Int × Int)) : covB (c + n) (plusVs n vs) = covB c vs := by
  unfold covB plusVs
  rw [List.any_map]
  congr 1
  funext p
  simp only [Function.comp_apply, decide_eq_decide]
  omega
theorem rpl_good {c : Int} {vs : List (Int × Int)} {n : Int} (hv : vldB c vs = true) (h0 : 0 ≤ n) (h1 : rplC c vs n ≤ 100) (h2 : ∀ (k : Nat) (x y : Int), vs[k]? = some (x, y) → y + n ≤ 100) : plusC c vs n = rplC c vs n ∧ plusV c vs n = plusVs n vs ∧ plusE c vs n = 0 := by
  have hp := vldB_parts hv
  have hcov := cov_of hv
  have hl : n ≤ 100 - leastI c vs := by
    rcases vs with _ | ⟨p, r⟩
    · simp [rplC] at h1
      simp [leastI]
      omega
    · have hc : c ≤ 100 - n := by
        by_cases hc0 : 0 < c
        · simp only [rplC, hc0, true_or, if_true] at h1
          omega
        · have := h2 0 p.1 p.2 rfl
          have h4 := (hp.2 0 p.1 p.2 (by simp) rfl).1.2
          omega
      have := leastI_le (c := c) (m := 100 - n) (vs := p :: r) hc (fun q hq => by
        obtain ⟨j, hj⟩ := List.getElem?_of_mem hq
        have := h2 j q.1 q.2 hj
        omega)
      omega
  have hok : plusOk c vs n = true := by
    have : decide (n ≤ 100 - leastI c vs) = true := by simpa using hl
    simp [plusOk, hv, h0, this]
  refine ⟨?_, by simp [plusV, hok], by simp [plusE, hv, h0, hl]⟩
  have e : plusC c vs n = canonC (c + n) (plusVs n vs) := by simp [plusC, hok]
  rw [e]
  unfold canonC rplC
  rw [cov_plus]
  by_cases hc0 : 0 < c
  · have hcf : covB c vs = false := hcov.resolve_left (by omega)
    simp [hcf, hc0]
  · obtain rfl : c = 0 := by omega
    rcases vs with _ | ⟨p, r⟩
    · simp [covB]
    · have hcv : covB 0 (p :: r) = true := by
        have h4 := (hp.2 0 p.1 p.2 (by simp) rfl).1.2
        exact List.any_eq_true.2 ⟨p, List.mem_cons_self, by simpa using h4.1⟩
      simp [hcv]

set_option maxRecDepth 100000 in
set_option maxHeartbeats 4000000 in
theorem rplus_any (c : Int) (A : Option Addr) (cap : Nat) (vs : List (Int × Int)) (n : Int) (B : Nat) (w : World) (hv : VA w B A vs) (hB : B ≤ w.heap.size) (hl : vs.length ≤ 1000000) :
    Calls Tryz.prog 23 #[.agg #[.int .i64 c, .slice A vs.length cap], .int .i64 n] w (GivesLv (plusC c vs n) (plusV c vs n) (plusE c vs n) w) := by
  obtain ⟨i0, hi, hz0, hz1, hz2⟩ := info_parts info62
  have hval := Lib.hid (fun W (hb : Below w.heap.size w W) => rvalid_any c A cap vs B W (hv.below hb hB) (by have := hb.size; omega))
  have HV := Lib.hid hv
  clear hv
  go_enter Tryz.func23, Tryz.ntmps23
  go_wp2_with fail
  have hb0 := (((Below.refl w.heap.size w).alloc (Nat.le_refl _) (.cells #[.int .i64 c, .slice A vs.length cap] 24)).alloc (by simp) (.cells #[.int .i64 0, .slice none 0 0] 24))
  refine (hval.out _ hb0).mono ?_
  clear hval
  rintro e w1 ⟨rfl, hb1⟩
  have B1 := Lib.hid (hb0.trans (hb1.mono hb0.size))
  have hs1 : w.heap.size + 2 ≤ w1.heap.size := by have := hb1.size; simpa using this
  have hl0 : w.heap.size < w1.heap.size := by omega
  have hl1 : w.heap.size + 1 < w1.heap.size := by omega
  have HK := Lib.hid (show ∀ W, Below w1.heap.size w1 W → (W.cell? ⟨w.heap.size, 0, none⟩ = some (.int .i64 c) ∧ W.cell? ⟨w.heap.size, 1, none⟩ = some (.slice A vs.length cap)) ∧ (W.cell? ⟨w.heap.size + 1, 0, none⟩ = some (.int .i64 0) ∧ W.cell? ⟨w.heap.size + 1, 1, none⟩ = some (.slice none 0 0)) ∧ (W.frozen? ⟨w.heap.size + 1, 0, none⟩ = false ∧ W.frozen? ⟨w.heap.size + 1, 1, none⟩ = false) ∧ VA W B A vs ∧ Below w.heap.size w W from fun W hb => by
    obtain ⟨hc, hf⟩ := bcell hb1
    obtain ⟨hc2, hf2⟩ := bcell hb
    have hbw := B1.out.trans (hb.mono B1.out.size)
    exact ⟨⟨(hc2 _ _ (by omega)).trans ((hc _ _ (by simp; omega)).trans (by go_simp)), (hc2 _ _ (by omega)).trans ((hc _ _ (by simp; omega)).trans (by go_simp))⟩, ⟨(hc2 _ _ (by omega)).trans ((hc _ _ (by simp)).trans (by go_simp)), (hc2 _ _ (by omega)).trans ((hc _ _ (by simp)).trans (by go_simp))⟩, ⟨(hf2 _ _ (by omega)).trans ((hf _ _ (by simp)).trans (by go_simp)), (hf2 _ _ (by omega)).trans ((hf _ _ (by simp)).trans (by go_simp))⟩, HV.out.below hbw hB, hbw⟩)
  clear hb1 hb0
  have hret := Lib.hid (show ∀ (W : World) (u0 u1 : Value), Below w1.heap.size w1 W → Below w.heap.size w ((W.setCell ⟨w.heap.size + 1, 0, none⟩ u0).setCell ⟨w.heap.size + 1, 1, none⟩ u1) from fun W u0 u1 hb =>
    ((HK.out W hb).2.2.2.2.setCell (p := ⟨w.heap.size + 1, 0, none⟩) (by show w.heap.size ≤ w.heap.size + 1; omega) u0).setCell (p := ⟨w.heap.size + 1, 1, none⟩) (by show w.heap.size ≤ w.heap.size + 1; omega) u1)
  obtain ⟨⟨x0, x1⟩, ⟨r0, r1⟩, ⟨f0, f1⟩, _, _⟩ := HK.out w1 (Below.refl _ _)
  rcases h1 : vldB c vs with _ | _
  · have hok : Hid (plusOk c vs n = false) := Lib.hid (by simp [plusOk, h1])
    have hE : Hid (plusE c vs n = 3) := Lib.hid (by simp [plusE, h1])
    go_wp2
    exact bodyPost_ret (v := .tuple #[.agg #[.int .i64 0, .slice none 0 0], .int .i64 3]) (by simp [results, Tryz.results23, go_sem, r0, r1]) rfl (by rw [(plusOk_no hok.out).1, (plusOk_no hok.out).2, hE.out]; exact gives_zero (hret.out _ _ _ (Below.refl _ _)))
  · have H1 := Lib.hid h1
    clear h1
    by_cases h2 : n < 0
    · have hok : Hid (plusOk c vs n = false) := Lib.hid (by
        have : decide (0 ≤ n) = false := by simp; omega
        simp [plusOk, this])
      have hE : Hid (plusE c vs n = 2) := Lib.hid (by simp [plusE, H1.out]; omega)
      go_wp2
      exact bodyPost_ret (v := .tuple #[.agg #[.int .i64 0, .slice none 0 0], .int .i64 2]) (by simp [results, Tryz.results23, go_sem, r0, r1]) rfl (by rw [(plusOk_no hok.out).1, (plusOk_no hok.out).2, hE.out]; exact gives_zero (hret.out _ _ _ (Below.refl _ _)))
    · have hvl := vldB_least H1.out
      have hvp := vldB_parts H1.out
      by_cases h3 : 100 < n
      · have hb3 : Hid (plusOk c vs n = false ∧ plusE c vs n = 15) := Lib.hid (rpl_badC H1.out (by omega) (by omega))
        clear hvl hvp
        go_wp2
        exact bodyPost_ret (v := .tuple #[.agg #[.int .i64 0, .slice none 0 0], .int .i64 15]) (by simp [results, Tryz.results23, go_sem, r0, r1]) rfl (by rw [(plusOk_no hb3.out.1).1, (plusOk_no hb3.out.1).2, hb3.out.2]; exact gives_zero (hret.out _ _ _ (Below.refl _ _)))
      · obtain ⟨hc0, hc1⟩ := hvp.1
        have HP := Lib.hid hvp
        clear hvl hvp
        go_upto_region 8 with fail
        go_cut [27] from 19 to 27 (fun s27 wx => s27 = .bool (decide (0 < c ∨ vs.length = 0)) ∧ wx = w1.alloc (.cells #[.int .i64 0, .slice none 0 0] 24))
        case first =>
          by_cases hcc : 0 < c
          · have e3 : Hid (decide (0 < c ∨ vs.length = 0) = true) := Lib.hid (by simp [hcc])
            go_wp2
            go_meet
            exact ⟨by rw [e3.out], rfl⟩
          · have d1 : decide (0 < c) = false := by simpa using hcc
            by_cases hvl : vs.length = 0
            · have d2 : ((vs.length : Int) == 0) = true := by simp [hvl]
              have e3 : Hid (decide (0 < c ∨ vs.length = 0) = true) := Lib.hid (by simp [hvl])
              have HVL := Lib.hid hvl
              clear hvl
              go_wp2
              go_meet
              exact ⟨by rw [e3.out], rfl⟩
            · have d2 : ((vs.length : Int) == 0) = false := by rw [beq_eq_false_iff_ne]; omega
              have e3 : Hid (decide (0 < c ∨ vs.length = 0) = false) := Lib.hid (by simp [hvl]; omega)
              have HVL := Lib.hid hvl
              clear hvl
              go_wp2
              go_meet
              exact ⟨by rw [e3.out], rfl⟩
        case rest =>
          obtain ⟨rfl, rfl⟩ := hcut
          generalize hbb : decide (0 < c ∨ vs.length = 0) = bb
          have hrc : Hid (rplC c vs n = if bb = true then c + n else 0) := Lib.hid (by subst hbb; simp [rplC])
          clear hbb
          go_upto_if 27 with fail
          go_cut [] from 19 to 32 (fun wx => OX wx w1.heap.size (rplC c vs n) [] (.slice none 0 0) ∧ Below w1.heap.size w1 wx)
          case first =>
            cases bb with
            | false =>
              go_wp2
              go_meet
              rw [hrc.out]
              exact ⟨OX.start w1 0, (Below.refl _ _).alloc (Nat.le_refl _) _⟩
            | true =>
              go_wp2
              go_meet
              rw [hrc.out]
              exact ⟨OX.start w1 (c + n), (Below.refl _ _).alloc (Nat.le_refl _) _⟩
          case rest =>
            obtain ⟨hO, hB1⟩ := hcut
            clear x0 x1 r0 r1 f0 f1
            generalize hrr : rplC c vs n = rc at *
            have HRR := Lib.hid hrr
            clear hrr
            obtain ⟨⟨x0, x1⟩, ⟨r0, r1⟩, ⟨f0, f1⟩, _, _⟩ := HK.out _ hB1
            have o0 := hO.c0
            have HO := Lib.hid (And.intro hO hB1)
            clear hO hB1
            by_cases h4 : 100 < rc
            · have hb3 : Hid (plusOk c vs n = false ∧ plusE c vs n = 15) := Lib.hid (rpl_badC H1.out (by omega) (by
                have := HRR.out
                unfold rplC at this
                split at this <;> omega))
              go_wp2
              exact bodyPost_ret (v := .tuple #[.agg #[.int .i64 0, .slice none 0 0], .int .i64 15]) (by simp [results, Tryz.results23, go_sem, r0, r1]) rfl (by rw [(plusOk_no hb3.out.1).1, (plusOk_no hb3.out.1).2, hb3.out.2]; exact gives_zero (hret.out _ _ _ HO.out.2))
            · go_wp2
              go_loopw [7] (fun i wr => ∃ k : Nat, k ≤ vs.length ∧ i = .int .i64 k ∧ Hid (∀ (j : Nat) (x y : Int), j < k → vs[j]? = some (x, y) → y + n ≤ 100) ∧ ∃ v, OX wr w1.heap.size rc (plusVs n (vs.take k)) v ∧ Below w1.heap.size w1 wr) (fun i _ => vs.length - (intOf i).toNat)
              case atStart => exact ⟨0, Nat.zero_le _, rfl, Lib.hid (fun j _ _ h _ => absurd h (by omega)), _, by simpa [plusVs] using HO.out.1, HO.out.2⟩
              case round =>
                clear x0 x1 r0 r1 f0 f1 o0
                obtain ⟨k, hk, rfl, hn, v, hO, hB1⟩ := hrel
                obtain ⟨⟨x0, x1⟩, ⟨r0, r1⟩, ⟨f0, f1⟩, hva, _⟩ := HK.out _ hB1
                have o0 := hO.c0
                have o1 := hO.c1
                have ol := hO.lt
                have hsr := hB1.size
                by_cases hlt : k < vs.length
                · obtain ⟨b, off, x, y, rfl, hb, hg, hc0', hc1'⟩ := hva.at_ hlt
                  have hG := Lib.hid hg
                  have hy := (HP.out.2 k x y hlt hg).1
                  have HX := Lib.hid (And.intro hO hB1)
                  clear hO hB1 hva hg
                  obtain ⟨⟨hx1, hx2⟩, hy1, hy2⟩ := hy
                  by_cases h5 : 100 < y + n
                  · have hb3 : Hid (plusOk c vs n = false ∧ plusE c vs n = 15) := Lib.hid (rpl_bad H1.out (by omega) hG.out h5)
                    go_wp2
                    exact bodyPost_ret (v := .tuple #[.agg #[.int .i64 0, .slice none 0 0], .int .i64 15]) (by simp [results, Tryz.results23, go_sem, r0, r1]) rfl (by rw [(plusOk_no hb3.out.1).1, (plusOk_no hb3.out.1).2, hb3.out.2]; exact gives_zero (hret.out _ _ _ HX.out.2))
                  · have hst := Lib.hid (plusVs_take (n := n) hG.out)
                    have hpl : (plusVs n (vs.take k)).length = k := by rw [plusVs_length, List.length_take]; omega
                    generalize htsk : plusVs n (vs.take k) = ts at *
                    have hbw : b < w1.heap.size := by omega
                    have KS := Lib.hid (show ∀ w' : World, (∀ i : Nat, i < w1.heap.size → w'.heap[i]? = wr.heap[i]?) → w'.cell? ⟨w.heap.size, 1, none⟩ = some (.slice (some ⟨b, off, none⟩) vs.length cap) ∧ w'.cell? ⟨b, off + k * 2, none⟩ = some (.int .i64 x) ∧ w'.cell? ⟨b, off + k * 2 + 1, none⟩ = some (.int .i64 y) from fun w' he => by
                      have hc : ∀ (i o : Nat), i < w1.heap.size → w'.cell? ⟨i, o, none⟩ = wr.cell? ⟨i, o, none⟩ := fun i o h => World.cell?_of_block (a := ⟨i, o, none⟩) (he i h)
                      exact ⟨(hc _ _ (by omega)).trans x1, (hc _ _ (by omega)).trans hc0', (hc _ _ (by omega)).trans hc1'⟩)
                    have hown := HX.out.1.own
                    have HO5 := Lib.hid hown
                    clear hown
                    have hwr : IntKind.i64.wrap (y + n) = y + n := by rw [IntKind.wrap_i64]; omega
                    go_wp2_with fail
                    go_region_law
                      (first
                        | (refine step_append_mine rfl (.tmp 55) (.tmp 71) 22 rfl (w1.heap.size + 1) 69 i0 (.agg #[.int .i64 0, .int .i64 0]) 2 16 Tryz.underlying22 hi hz0 hz1 hz2 rfl (by decide) v ts.length (flat ts) (by simp [Act.eval]) (HX.out.1.drew.alloc _).own ⟨wr.heap.size, 0, none⟩ 1 1 [.int .i64 x, .int .i64 (y + n)] (by simp [Act.eval]) rfl (cell_two_new wr (.int .i64 x) (.int .i64 (y + n)) 69) (by intro u hu; simp at hu; rcases hu with rfl | rfl <;> rfl) (by unfold maxLen; omega) (by omega) (by simp; omega) ?_; intro v5 w5 hown5 hg5; obtain ⟨g5, cap5, rfl⟩ := ownsRow_succ hown5; obtain ⟨⟨q0, q1⟩, q2⟩ := (HX.out.1.drew.alloc _).grown hg5; have HN := Lib.hid (And.intro hown5 hg5); have HN5 := Lib.hid (show ∀ i : Nat, i < w1.heap.size → w5.heap[i]? = wr.heap[i]? from fun i h => (hg5.block i (Nat.lt_of_lt_of_le h (by simp; omega)) (fun e => by have := (World.ownsRow.lt HO5.out i e.symm).1; omega)).trans (Below.heap_alloc wr _ i (by omega))); clear hown5 hg5)
                        )
                    all_goals
                      have hgw := HN.out.2
                      have hZ := Lib.hid (OX.push (p := (x, y + n)) (HX.out.1.drew.alloc (.cells #[.int .i64 x, .int .i64 (y + n)] 69)) hgw HN.out.1)
                      have hbf : Hid (Below w1.heap.size w1 (w5.setCell ⟨w1.heap.size, 1, none⟩ (.slice (some ⟨g5, 0, none⟩) (k + 1) cap5))) := Lib.hid ((Below.grown (HX.out.2.drew.alloc hsr (.cells #[.int .i64 x, .int .i64 (y + n)] 69)) hgw (Nat.le_trans hsr (by simp)) (fun r e => by have := (World.ownsRow.lt HO5.out r e).1; omega)).setCell (Nat.le_refl _) _)
                      clear hgw
                      go_wp2
                      go_roundw
                      case rel => exact ⟨k + 1, by omega, by go_num, Lib.hid (fun j x' y' hj hj' => by
                          rcases Nat.lt_or_ge j k with h7 | h7
                          · exact hn.out j x' y' h7 hj'
                          · obtain rfl : j = k := by omega
                            rw [hG.out] at hj'
                            cases hj'
                            omega), _, by rw [hst.out]; rw [hpl] at hZ; exact hZ.out, hbf.out⟩
                      case measure => simp [intOf]; omega
                · obtain rfl : k = vs.length := by omega
                  rw [List.take_length] at hO
                  obtain ⟨A2, cap2, rfl, hva2, hfr2⟩ := hO.va (by rw [plusVs_length]; omega)
                  have hgood := Lib.hid (rpl_good H1.out (by omega) (by rw [HRR.out]; omega) (fun j x y hj => hn.out j x y (List.getElem?_eq_some_iff.1 hj).1 hj))
                  have HX := Lib.hid (And.intro hO (And.intro hB1 (And.intro hva2 hfr2)))
                  rw [plusVs_length] at o1
                  clear hO hB1 hva hva2 hfr2
                  go_wp2
                  refine bodyPost_ret (v := .tuple #[.agg #[.int .i64 rc, .slice A2 vs.length cap2], .int .i64 0]) (by simp [results, Tryz.results23, go_sem, r0, r1]) rfl ?_
                  rw [hgood.out.1, hgood.out.2.1, hgood.out.2.2, HRR.out]
                  refine ⟨A2, cap2, by rw [plusVs_length], ?_, hret.out _ _ _ HX.out.2.1⟩
                  have hne : ∀ b off, 0 < (plusVs n vs).length → A2 = some ⟨b, off, none⟩ → b ≠ w.heap.size + 1 := fun b off h e => by have := HX.out.2.2.2 b off h e; omega
                  have h9 := ((HX.out.2.2.1.setCell (p := ⟨w.heap.size + 1, 0, none⟩) hne (.int .i64 rc)).setCell (p := ⟨w.heap.size + 1, 1, none⟩) hne (.slice A2 vs.length cap2))
                  simpa [World.setCell] using h9
end Go.Proofs.YtipnabbdhmapkaaGreatDoor
