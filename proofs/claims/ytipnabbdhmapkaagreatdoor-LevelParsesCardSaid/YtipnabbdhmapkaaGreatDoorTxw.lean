/- Text: the walk. -/
import Derived.Test.YtipnabbdhmapkaaGreatDoorTxu
namespace Go.Proofs.YtipnabbdhmapkaaGreatDoor
open Go.RowKit
attribute [local go_sem] Oper.semAt_some

set_option maxRecDepth 100000 in
set_option maxHeartbeats 4000000 in
theorem text_good (c : Int) (A : Option Addr) (cap : Nat) (vs : List (Int × Int)) (w : World) (hv : VA w w.heap.size A vs) (hok : vldB c vs = true) (hp : Pow w) :
    Calls Tryz.prog 40 #[.agg #[.int .i64 c, .slice A vs.length cap]] w fun e w' => e = .returned (.tuple #[.string (txtB (txtL c vs)), .int .i64 0]) ∧ Below w.heap.size w w' := by
  obtain ⟨i0, hi, hz0, hz1, hz2⟩ := info_parts info9
  have hv1 := Lib.hid (hv.alloc (Nat.le_refl _) (.cells #[.int .i64 c, .slice A vs.length cap] 24))
  have HV := Lib.hid hv
  clear hv
  refine (callsIn_wide (n := 6)).1 ?_
  refine callsIn_of_wp_marks Tryz.func40 rfl trivial ?_ rfl
  simp only [Tryz.ntmps40, List.size_toArray, List.length_cons, List.length_nil, Nat.reduceAdd, Nat.reduceSub, Array.replicate_succ, Array.replicate_zero, List.push_toArray, List.append_toArray, List.nil_append, List.cons_append]
  refine wpIn_wide.2 ?_
  generalize hQ0 : bodyPostM _ _ _ _ _ = Q0
  have HQ0 := Lib.hid hQ0
  clear hQ0
  go_wp2_with fail
  refine (valid_any c A cap vs w.heap.size _ hv1.out (by simp)).mono ?_
  rw [hok]
  rintro e w1 ⟨rfl, hb1⟩
  obtain ⟨hc1, hf1⟩ := bcell hb1
  have hs1 := hb1.size
  simp only [World.size_alloc] at hs1
  have hl1 : w.heap.size < w1.heap.size := by omega
  have H1 := Lib.hid hb1
  clear hb1
  have hT0 := Lib.hid (show TX (w1.alloc (.cells #[.slice none 0 0] 90)) w1.heap.size [] (.slice none 0 0) from TX.start _)
  go_upto_region 4 with fail
  go_cut [20] from 9 to 20 (fun s20 wx => s20 = .bool (decide (c ≠ 0 ∨ vs.length = 0)) ∧ wx = w1.alloc (.cells #[.slice none 0 0] 90))
  case first =>
    by_cases hcc : c = 0
    · have d1 : (c != 0) = false := by simp [hcc]
      by_cases hvl : vs.length = 0
      · have d2 : ((vs.length : Int) == 0) = true := by simp [hvl]
        have e3 : decide (c ≠ 0 ∨ vs.length = 0) = true := by simp [hvl]
        have HD := Lib.hid (And.intro hcc hvl)
        have E3 := Lib.hid e3
        clear hcc hvl e3
        go_wp2_with fail
        go_meet
        exact ⟨by rw [E3.out], rfl⟩
      · have d2 : ((vs.length : Int) == 0) = false := by rw [beq_eq_false_iff_ne]; omega
        have e3 : decide (c ≠ 0 ∨ vs.length = 0) = false := by simp [hvl, hcc]
        have HD := Lib.hid (And.intro hcc hvl)
        have E3 := Lib.hid e3
        clear hcc hvl e3
        go_wp2_with fail
        go_meet
        exact ⟨by rw [E3.out], rfl⟩
    · have d1 : (c != 0) = true := by rw [bne_iff_ne]; exact hcc
      have e3 : decide (c ≠ 0 ∨ vs.length = 0) = true := by simp [hcc]
      have HD := Lib.hid hcc
      have E3 := Lib.hid e3
      clear hcc e3
      go_wp2_with fail
      go_meet
      exact ⟨by rw [E3.out], rfl⟩
  case rest =>
    obtain ⟨rfl, rfl⟩ := hcut
    generalize hbb : decide (c ≠ 0 ∨ vs.length = 0) = bb
    have htc := Lib.hid (show tsC c vs = if bb = true then [⟨(Lib.itoa c).toArray⟩] else [] by subst hbb; simp [tsC])
    clear hbb
    have hcr : 0 ≤ c ∧ c ≤ 100 := by
      simp only [vldB, Bool.and_eq_true, decide_eq_true_eq] at hok
      omega
    have hp2 := Lib.hid (show Pow (w1.alloc (.cells #[.slice none 0 0] 90)) from hp.below (((((Below.refl _ w).alloc (Nat.le_refl _) _).trans (H1.out.mono (by simp)))).alloc (by omega) _))
    go_upto_if 20 with fail
    go_cut [] from 9 to 26 (fun wx => ∃ v, TX wx w1.heap.size (tsC c vs) v ∧ Below w1.heap.size w1 wx)
    case first =>
      cases bb with
      | false =>
        go_wp2_with fail
        go_meet
        rw [htc.out]
        exact ⟨_, hT0.out, (Below.refl _ _).alloc (Nat.le_refl _) _⟩
      | true =>
        go_wp2_with fail
        have hTd := Lib.hid hT0.out.drew
        have hpd := Lib.hid (show Pow (w1.alloc (.cells #[.slice none 0 0] 90)).drew from hp2.out)
        refine wp_onlyN ?_
        go_region_law (first
          | (go_simp; go_at_call 65; refine (itoa_any c hcr.1 (by omega) _ hpd.out).mono ?_; rintro e w2 ⟨rfl, hb2⟩; have HT2 := Lib.hid (hTd.out.below hb2); have q0 := HT2.out.c0; have qs : w1.heap.size + 1 ≤ w2.heap.size := (by simpa [World.drew] using hb2.size); have ql : w1.heap.size < w2.heap.size := (by omega); have HB2 := Lib.hid hb2; clear hb2)
          | (refine step_append_mine rfl (.tmp 21) (.tmp 25) 90 rfl (w1.heap.size + 1) 9 i0 (.string ⟨#[]⟩) 1 16 Tryz.underlying90 hi hz0 hz1 hz2 rfl (by decide) (.slice none 0 0) 0 [] (by simp [Act.eval]) (HT2.out.alloc _).own ⟨w2.heap.size, 0, none⟩ 1 1 [.string ⟨(Lib.itoa c).toArray⟩] (by simp [Act.eval]) rfl (cell_one_new _ _ _) (by intro u hu; simp at hu; subst hu; rfl) (by decide) (by decide) (by simp; omega) ?_; intro v' w5 hown5 hg5; obtain ⟨g5, cap5, rfl⟩ := ownsRow_succ hown5; obtain ⟨q1, q2⟩ := (HT2.out.alloc _).grown hg5; have HN := Lib.hid (And.intro hown5 hg5); clear hown5 hg5))
        all_goals
          simp only [OnlyN]
          go_wp2_with fail
          go_meet
          rw [htc.out]
          exact ⟨_, TX.push (HT2.out.alloc _) HN.out.2 HN.out.1, (Below.grown (((((Below.refl _ w1).alloc (Nat.le_refl _) _).drew).trans (HB2.out.mono (by simp [World.drew]))).alloc (by omega) _) HN.out.2 (by simp; omega) (by intro k e; cases e)).setCell (Nat.le_refl _) _⟩
    case rest =>
      obtain ⟨v0, hT1, hB1⟩ := hcut
      have hokt := (okB_iff vs).1 (by simp only [vldB, Bool.and_eq_true] at hok; exact hok.2.1)
      have hlen := ok_len hokt
      have HOK := Lib.hid hokt
      have hvW := Lib.hid (show ∀ W, Below w1.heap.size w1 W → VA W w.heap.size A vs from fun W h => (hv1.out.below H1.out (by simp)).below h (by omega))
      have hcW := Lib.hid (show ∀ W, Below w1.heap.size w1 W → W.cell? ⟨w.heap.size, 1, none⟩ = some (.slice A vs.length cap) from fun W h => (h.cell (p := ⟨w.heap.size, 1, none⟩) (by simpa using hl1)).trans ((hc1 w.heap.size 1 (by simp)).trans (by simp)))
      have hpW := Lib.hid (show ∀ W, Below w1.heap.size w1 W → Pow W from fun W h => hp.below ((((Below.refl _ w).alloc (Nat.le_refl _) _).trans (H1.out.mono (by simp))).trans (h.mono (by omega))))
      have hx1 := hcW.out _ hB1
      have HT1 := Lib.hid (And.intro hT1 hB1)
      clear hT1 hB1 hokt hc1 hf1 hp2 hT0 htc
      go_wp2_with fail
      go_loopw [30] (fun i wr => ∃ k : Nat, k ≤ vs.length ∧ i = .int .i64 k ∧ ∃ v, TX wr w1.heap.size (tsC c vs ++ tsU (vs.take k)) v ∧ Below w1.heap.size w1 wr) (fun i _ => vs.length - (intOf i).toNat)
      case atStart => exact ⟨0, Nat.zero_le _, rfl, v0, by simpa [tsU] using HT1.out.1, HT1.out.2⟩
      case round =>
        obtain ⟨k, hk, rfl, v, hT, hB⟩ := hrel
        have hvr := hvW.out _ hB
        have hsr := hB.size
        have hwr : w.heap.size < wr.heap.size := by omega
        have htl : (tsC c vs ++ tsU (vs.take k)).length ≤ 65546 := by
          have h1 := tsC_len c vs
          have h2 := tsU_len (vs.take k)
          simp at h2 ⊢
          omega
        by_cases hlk : k < vs.length
        · obtain ⟨b, off, x, y, rfl, hb, hg, hc0, hc1, _, _⟩ := hvr.ata (by omega) hlk
          have hxy := (HOK.out k x y hlk hg).1
          have HX := Lib.hid (And.intro hT (And.intro hB hg))
          clear hvr hT hB hg
          by_cases hx0 : 0 ≤ x
          · have hTd := Lib.hid ((HX.out.1.alloc (.cells #[.int .i64 x, .int .i64 y] 69)).drew)
            have hBd := Lib.hid (show Below w1.heap.size w1 (wr.alloc (.cells #[.int .i64 x, .int .i64 y] 69)).drew from (HX.out.2.1.alloc hsr _).drew)
            have hpd := Lib.hid (hpW.out _ hBd.out)
            have q00 := HX.out.1.c0
            have htbr := HX.out.1.lt
            have hst := Lib.hid (show tsU (vs.take (k + 1)) = tsU (vs.take k) ++ [varT ⟨#[117]⟩ x y] by rw [tsU_step HX.out.2.2, if_pos hx0])
            generalize htsk : tsC c vs ++ tsU (vs.take k) = ts at *
            go_wp2_with fail
            refine wp_onlyN ?_
            go_region_law (first
              | (go_simp; go_at_call 66; refine (varText_any ⟨#[117]⟩ x y hx0 (by omega) hxy.2.1 hxy.2.2 _ hpd.out (by decide)).mono ?_; rintro e w2 ⟨rfl, hb2⟩; have HT2 := Lib.hid (hTd.out.below hb2); have q0 := HT2.out.c0; have qs : wr.heap.size + 1 ≤ w2.heap.size := (by simpa [World.drew] using hb2.size); have ql : w1.heap.size < w2.heap.size := (by omega); have HB2 := Lib.hid hb2; clear hb2)
              | (refine step_append_mine rfl (.tmp 37) (.tmp 43) 90 rfl (w1.heap.size + 1) 9 i0 (.string ⟨#[]⟩) 1 16 Tryz.underlying90 hi hz0 hz1 hz2 rfl (by decide) v ts.length (ts.map Value.string) (by simp [Act.eval]) (HT2.out.alloc _).own ⟨w2.heap.size, 0, none⟩ 1 1 [.string (varT ⟨#[117]⟩ x y)] (by simp [Act.eval]) rfl (cell_one_new _ _ _) (by intro u hu; simp at hu; subst hu; rfl) (by unfold maxLen; omega) (by omega) (by simp; omega) ?_; intro v' w5 hown5 hg5; obtain ⟨g5, cap5, rfl⟩ := ownsRow_succ hown5; obtain ⟨q1, q2⟩ := (HT2.out.alloc _).grown hg5; have HN := Lib.hid (And.intro hown5 hg5); clear hown5 hg5))
            all_goals
              simp only [OnlyN]
              have HZ := Lib.hid (TX.push (HT2.out.alloc _) HN.out.2 HN.out.1)
              have hrow : ∀ j, v.ownBlock = some j → w1.heap.size ≤ j := fun j hj => by
                have := World.ownsRow.lt (HT2.out.alloc (.cells #[.string (varT ⟨#[117]⟩ x y)] 9)).own j hj
                omega
              have HZ2 := Lib.hid ((Below.grown ((hBd.out.trans (HB2.out.mono (by simp [World.drew]; omega))).alloc (by omega) _) HN.out.2 (by simp; omega) hrow).setCell (p := ⟨w1.heap.size, 0, none⟩) (Nat.le_refl _) (.slice (some ⟨g5, 0, none⟩) (ts.length + 1) cap5))
              clear hrow
              go_wp2_with fail
              refine ⟨⟨k + 1, hlk, rfl, .slice (some ⟨g5, 0, none⟩) (ts.length + 1) cap5, ?_, HZ2.out⟩, by simp [intOf]; omega⟩
              rw [hst.out, ← List.append_assoc, htsk]
              exact HZ.out
          · have hst := Lib.hid (show tsU (vs.take (k + 1)) = tsU (vs.take k) by rw [tsU_step HX.out.2.2, if_neg hx0])
            go_wp2_with fail
            refine ⟨⟨k + 1, hlk, rfl, v, ?_, HX.out.2.1.alloc hsr _⟩, by simp [intOf]; omega⟩
            rw [hst.out]
            exact HX.out.1.alloc _
        · have hke : k = vs.length := by omega
          subst hke
          rw [List.take_length] at hT
          have hx2 := hcW.out _ hB
          have HX := Lib.hid (And.intro hT hB)
          clear hT hB
          go_wp2_with fail
          refine (callsIn_wide.1 (backward_in 6 A vs.length cap wr)).mono ?_
          rintro e w3 ⟨rfl, hw3⟩
          have bS := Boxed.new wr 22 (.slice A vs.length cap)
          rw [← hw3] at bS
          have hT3 : TX w3 w1.heap.size (tsC c vs ++ tsU vs) v := by rw [hw3]; exact HX.out.1.alloc _
          have hB3 : Below w1.heap.size w1 w3 := by rw [hw3]; exact HX.out.2.alloc hsr _
          have hs3 : w3.heap.size = wr.heap.size + 1 := by rw [hw3]; simp
          clear hw3
          have HB3 := Lib.hid hB3
          go_wp2_with fail
          refine (wpIn_wide (n := 6)).1 ?_
          refine wpIn_rangeFunc_ownH rfl (by decide) (gf := 83) (lb := #[.pointer (some ⟨wr.heap.size, 0, none⟩)]) rfl trivial (enters_of Tryz.func83 (by kernel_rfl) rfl)
            (bw_stops 5 (by decide) wr.heap.size w1.heap.size A cap vs w3 (by omega) bS.cell (by omega) ((hvW.out _ hB3).more (by omega))) (fun h k => h.trans k)
            (fun W l o o' hl h _ _ => KAB.grown (grownBy_putObj' W l o') (by have := (Array.getElem?_eq_some_iff.1 h).1; omega) (by have := (Array.getElem?_eq_some_iff.1 h).1; omega) (by have := (Array.getElem?_eq_some_iff.1 h).1; omega) (fun r e => by cases e; omega)) (Below.refl _ _) (fun _ => rfl)
            (fun pre W => (∃ v, TX W w1.heap.size (tsC c vs ++ tsU vs ++ tsB vs pre) v) ∧ KAB w1.heap.size wr.heap.size wr.heap.size w3 W)
            (fun _ _ _ => False) (OwnFrom.and (TX.ownFrom _ _ (fun pre => tsC c vs ++ tsU vs ++ tsB vs pre)) (fun _ X Y row hs hg hr => hs.trans (KAB.grown hg (by have := hs.size; omega) (by have := hs.size; omega) (by have := hs.size; omega) (fun r e => by have := (hr r e).1; omega)))) (fun _ _ _ _ _ hs _ _ => hs) ⟨⟨v, by simpa [tsB, tsQ] using hT3⟩, KAB.refl _ _ _ _⟩
            (fun x a' W => ∃ Bx, w3.heap.size ≤ Bx ∧ W.heap[Bx]? = some (.cells #[.int .i64 vs[x].1, .int .i64 vs[x].2] 69 (0, 0)) ∧ a' = { tmps := #[.agg #[.int .i64 c, .slice A vs.length cap], .pointer (some ⟨w.heap.size, 0, none⟩), .string ⟨#[]⟩, .int .i64 0, .pointer (some ⟨w1.heap.size, 0, none⟩), undef, u6, undef, .pointer (some ⟨Bx, 0, none⟩), u9, u10, u11, u12, u13, u14, u15, u16, u17, u18, u19, u20, u21, u22, u23, u24, u25, u26, .pointer (some ⟨w.heap.size, 1, none⟩), .slice A vs.length cap, .int .i64 vs.length, .int .i64 vs.length, .bool false, u32, u33, u34, u35, u36, u37, u38, u39, u40, u41, u42, u43, u44, u45, .pointer (some ⟨w.heap.size, 1, none⟩), .slice A vs.length cap, .func (.func 83) #[] #[.pointer (some ⟨wr.heap.size, 0, none⟩)], .int .i64 (x.val : Int), .agg #[.int .i64 vs[x].1, .int .i64 vs[x].2], undef, undef, undef, undef, undef, undef, undef, undef, undef, undef, undef, undef, undef, undef, undef, undef, undef, undef, undef, undef, undef, undef], defers := [] })
            (fun x a' _ X Y row hs hg hr => by
              obtain ⟨Bx, hle, hc, ha⟩ := hs
              refine ⟨Bx, hle, (hg.block Bx (Array.getElem?_eq_some_iff.1 hc).1 (fun e => ?_)).trans hc, ha⟩
              obtain ⟨_, o, ho, hno⟩ := hr Bx e.symm
              rw [hc] at ho
              cases ho
              cases hno) ?assign ?body ?done ?stop
          case assign =>
            rintro l pre x W K ⟨⟨v2, hT2⟩, hk⟩ hK
            have hks := hk.size
            have hka : KAB w1.heap.size wr.heap.size wr.heap.size W (W.alloc (.cells #[.int .i64 vs[x].1, .int .i64 vs[x].2] 69)) := KAB.grown (World.grownBy_alloc _ _ none) (by omega) (by omega) (by omega) (fun _ e => by cases e)
            gi_wp2
            exact hK _ _ ((KeepsOthers.alloc _ _).from _) hka ⟨⟨v2, hT2.alloc _⟩, hk.trans hka⟩ ⟨W.heap.size, hks, World.alloc_heap_new _ _, rfl⟩
          case body =>
            rintro l pre x a' W hl ⟨r, hlr⟩ ⟨⟨v2, hT2⟩, hk⟩ ⟨Bx, hBx, hcx, rfl⟩ hlt
            have hks := hk.size
            have hxy := (HOK.out x.val vs[x].1 vs[x].2 x.isLt (List.getElem?_eq_getElem x.isLt)).1
            have hBW : Below w1.heap.size w1 W := HB3.out.trans hk.below
            have htl : (tsC c vs ++ tsU vs ++ tsB vs pre).length ≤ 131092 := by
              have h1 := tsC_len c vs
              have h2 := tsU_len vs
              have h3 := tsB_len vs pre
              simp only [List.length_append]
              omega
            by_cases hneg : vs[x].1 < 0
            · have hst := Lib.hid (tsB_yes (pre := pre) hneg)
              have HBS := Lib.hid (show Boxed W wr.heap.size 22 (.slice A vs.length cap) from hk.a.trans bS)
              have HKT := Lib.hid (And.intro hT2 hk)
              clear hT2 hk
              generalize vs[x].1 = ix at *
              generalize vs[x].2 = pl at *
              generalize htsk : tsC c vs ++ tsU vs ++ tsB vs pre = ts at *
              have hcx0 : W.cell? ⟨Bx, 0, none⟩ = some (.int .i64 ix) := by simp [World.cell?, hcx]
              have hcx1 : W.cell? ⟨Bx, 1, none⟩ = some (.int .i64 pl) := by simp [World.cell?, hcx]
              have HLR := Lib.hid hlr
              have hTd := Lib.hid HKT.out.1.drew
              have hpd := Lib.hid (hpW.out _ hBW.drew)
              have q00 := HKT.out.1.c0
              have hlw := HKT.out.1.lt
              clear hlr hcx
              gi_wp2_with fail
              obtain ⟨⟨hx1, hx2⟩, hy1, hy2⟩ := hxy
              have hwr : IntKind.i64.wrap (-1 - ix) = -1 - ix := by rw [IntKind.wrap_i64]; omega
              refine region_round (by kernel_rfl) (by kernel_rfl) ?_
              refine wpAny_take (i := 1) (v := .pointer (some ⟨Bx, 0, none⟩)) rfl (by kernel_rfl) (by kernel_rfl) (by kernel_rfl) (fun _ _ _ h => h) (Or.inl ⟨by rfl, by intro w; go_simp⟩) ?_
              refine wpAny_take (i := 4) (v := .pointer (some ⟨Bx, 1, none⟩)) rfl (by kernel_rfl) (by kernel_rfl) (by kernel_rfl) (fun _ _ _ h => h) (Or.inl ⟨by rfl, by intro w; go_simp⟩) ?_
              refine wpAny_ready (rs := [0, 2, 5]) (by kernel_rfl) (List.cons_ne_nil _ _) ?_
              refine AllReady.cons (o := { dst := some 54, op := Op.load 90 (Operand.tmp 4), type := 90, pos := "text.go:31", after := #[], guard := none }) rfl (fun K hK => ?_) ?_
              · go_simp
                refine hK _ _ ?_
                clear hK K
                refine wpAny_ready (rs := [2, 5]) (by kernel_rfl) (List.cons_ne_nil _ _) ?_
                refine AllReady.cons (o := { dst := some 56, op := Op.load 3 (Operand.tmp 55), type := 3, pos := "text.go:31", after := #[{ on := 1, ground := Ground.data }], guard := none }) rfl (fun K hK => ?_) ?_
                · go_simp
                  refine hK _ _ ?_
                  clear hK K
                  refine wpAny_take (i := 3) (v := .int .i64 (-1 - ix)) rfl (by kernel_rfl) (by kernel_rfl) (by kernel_rfl) (fun _ _ _ h => h) (Or.inl ⟨by rfl, by intro w; go_simp⟩) ?_
                  refine wpAny_ready (rs := [5]) (by kernel_rfl) (List.cons_ne_nil _ _) ?_
                  refine AllReady.cons (o := { dst := some 59, op := Op.load 3 (Operand.tmp 58), type := 3, pos := "text.go:31", after := #[{ on := 4, ground := Ground.data }], guard := none }) rfl (fun K hK => ?_) ?_
                  · go_simp
                    refine hK _ _ ?_
                    clear hK K
                    refine wpAny_ready (rs := [6]) (by kernel_rfl) (List.cons_ne_nil _ _) ?_
                    refine AllReady.cons (o := { dst := some 60, op := Op.call { callee := Callee.value (Operand.func 66), args := #[Operand.const (Value.string ⟨#[63]⟩), Operand.tmp 57, Operand.tmp 59], argTypes := #[9, 3, 3] }, type := 9, pos := "text.go:31", after := #[{ on := 3, ground := Ground.data }, { on := 5, ground := Ground.data }], guard := none }) rfl (fun K hK => ?_) ?_
                    · go_simp
                      go_at_call 66
                      refine (varText_any ⟨#[63]⟩ (-1 - ix) pl (by omega) (by omega) hy1 hy2 _ hpd.out (by decide)).mono ?_
                      rintro e w2 ⟨rfl, hb2⟩
                      have HT2 := Lib.hid (hTd.out.below hb2)
                      have q0 := HT2.out.c0
                      have qs : W.heap.size ≤ w2.heap.size := hb2.size
                      have ql : w1.heap.size < w2.heap.size := (by omega)
                      have HB2 := Lib.hid hb2
                      clear hb2
                      try go_simp
                      refine hK _ _ ?_
                      clear hK K
                      refine wpAny_ready (rs := [7]) (by kernel_rfl) (List.cons_ne_nil _ _) ?_
                      refine AllReady.cons (o := { dst := some 61, op := Op.buildSlice 90 1 #[(0, Operand.tmp 60)], type := 90, pos := "text.go:31", after := #[{ on := 6, ground := Ground.data }], guard := none }) rfl (fun K hK => ?_) ?_
                      · go_simp
                        refine hK _ _ ?_
                        clear hK K
                        refine wpAny_ready (rs := [8]) (by kernel_rfl) (List.cons_ne_nil _ _) ?_
                        refine AllReady.cons (o := { dst := some 62, op := Op.call { callee := Callee.builtin Builtin.append, args := #[Operand.tmp 54, Operand.tmp 61], argTypes := #[90, 90] }, type := 90, pos := "text.go:31", after := #[{ on := 0, ground := Ground.data }, { on := 7, ground := Ground.data }, { on := 6, ground := Ground.chain }], guard := none }) rfl (fun K hK => ?_) ?_
                        · refine step_append_mine rfl (.tmp 54) (.tmp 61) 90 rfl (w1.heap.size + 1) 9 i0 (.string ⟨#[]⟩) 1 16 Tryz.underlying90 hi hz0 hz1 hz2 rfl (by decide) v2 ts.length (ts.map Value.string) (by simp [Act.eval]) (HT2.out.alloc _).own ⟨w2.heap.size, 0, none⟩ 1 1 [.string (varT ⟨#[63]⟩ (-1 - ix) pl)] (by simp [Act.eval]) rfl (cell_one_new _ _ _) (by intro u hu; simp at hu; subst hu; rfl) (by unfold maxLen; omega) (by omega) (by simp; omega) ?_
                          intro v5 w5 hown5 hg5
                          obtain ⟨g5, cap5, rfl⟩ := ownsRow_succ hown5
                          obtain ⟨q1, q2⟩ := (HT2.out.alloc _).grown hg5
                          have HN := Lib.hid (And.intro hown5 hg5)
                          clear hown5 hg5
                          try go_simp
                          refine hK _ _ ?_
                          clear hK K
                          refine wpAny_ready (rs := [9]) (by kernel_rfl) (List.cons_ne_nil _ _) ?_
                          refine AllReady.cons (o := { dst := none, op := Op.store 90 (Operand.tmp 4) (Operand.tmp 62), type := 0, pos := "text.go:31", after := #[{ on := 8, ground := Ground.data }, { on := 8, ground := Ground.chain }, { on := 0, ground := Ground.phase }, { on := 1, ground := Ground.phase }, { on := 2, ground := Ground.phase }, { on := 3, ground := Ground.phase }, { on := 4, ground := Ground.phase }, { on := 5, ground := Ground.phase }, { on := 6, ground := Ground.phase }, { on := 7, ground := Ground.phase }, { on := 8, ground := Ground.phase }], guard := none }) rfl (fun K hK => ?_) ?_
                          · go_simp
                            refine hK _ _ ?_
                            clear hK K
                            refine wpAny_done (by kernel_rfl) ?_ _
                            have HZ := Lib.hid (TX.round w3.heap.size HKT.out.1 HBS.out HB2.out HN.out.2 HN.out.1)
                            simp only [OnlyN]
                            gi_wp2_with fail
                            refine ⟨HZ.out.1, HZ.out.2.1, ⟨.slice (some ⟨g5, 0, none⟩) (ts.length + 1) cap5, ?_⟩, HKT.out.2.trans HZ.out.2.1⟩
                            rw [hst.out, ← List.append_assoc, htsk]
                            exact HZ.out.2.2
                          exact AllReady.nil
                        exact AllReady.nil
                      exact AllReady.nil
                    exact AllReady.nil
                  exact AllReady.nil
                refine AllReady.cons (o := { dst := some 59, op := Op.load 3 (Operand.tmp 58), type := 3, pos := "text.go:31", after := #[{ on := 4, ground := Ground.data }], guard := none }) rfl (fun K hK => ?_) ?_
                · go_simp
                  refine hK _ _ ?_
                  clear hK K
                  refine wpAny_ready (rs := [2]) (by kernel_rfl) (List.cons_ne_nil _ _) ?_
                  refine AllReady.cons (o := { dst := some 56, op := Op.load 3 (Operand.tmp 55), type := 3, pos := "text.go:31", after := #[{ on := 1, ground := Ground.data }], guard := none }) rfl (fun K hK => ?_) ?_
                  · go_simp
                    refine hK _ _ ?_
                    clear hK K
                    refine wpAny_take (i := 3) (v := .int .i64 (-1 - ix)) rfl (by kernel_rfl) (by kernel_rfl) (by kernel_rfl) (fun _ _ _ h => h) (Or.inl ⟨by rfl, by intro w; go_simp⟩) ?_
                    refine wpAny_ready (rs := [6]) (by kernel_rfl) (List.cons_ne_nil _ _) ?_
                    refine AllReady.cons (o := { dst := some 60, op := Op.call { callee := Callee.value (Operand.func 66), args := #[Operand.const (Value.string ⟨#[63]⟩), Operand.tmp 57, Operand.tmp 59], argTypes := #[9, 3, 3] }, type := 9, pos := "text.go:31", after := #[{ on := 3, ground := Ground.data }, { on := 5, ground := Ground.data }], guard := none }) rfl (fun K hK => ?_) ?_
                    · go_simp
                      go_at_call 66
                      refine (varText_any ⟨#[63]⟩ (-1 - ix) pl (by omega) (by omega) hy1 hy2 _ hpd.out (by decide)).mono ?_
                      rintro e w2 ⟨rfl, hb2⟩
                      have HT2 := Lib.hid (hTd.out.below hb2)
                      have q0 := HT2.out.c0
                      have qs : W.heap.size ≤ w2.heap.size := hb2.size
                      have ql : w1.heap.size < w2.heap.size := (by omega)
                      have HB2 := Lib.hid hb2
                      clear hb2
                      try go_simp
                      refine hK _ _ ?_
                      clear hK K
                      refine wpAny_ready (rs := [7]) (by kernel_rfl) (List.cons_ne_nil _ _) ?_
                      refine AllReady.cons (o := { dst := some 61, op := Op.buildSlice 90 1 #[(0, Operand.tmp 60)], type := 90, pos := "text.go:31", after := #[{ on := 6, ground := Ground.data }], guard := none }) rfl (fun K hK => ?_) ?_
                      · go_simp
                        refine hK _ _ ?_
                        clear hK K
                        refine wpAny_ready (rs := [8]) (by kernel_rfl) (List.cons_ne_nil _ _) ?_
                        refine AllReady.cons (o := { dst := some 62, op := Op.call { callee := Callee.builtin Builtin.append, args := #[Operand.tmp 54, Operand.tmp 61], argTypes := #[90, 90] }, type := 90, pos := "text.go:31", after := #[{ on := 0, ground := Ground.data }, { on := 7, ground := Ground.data }, { on := 6, ground := Ground.chain }], guard := none }) rfl (fun K hK => ?_) ?_
                        · refine step_append_mine rfl (.tmp 54) (.tmp 61) 90 rfl (w1.heap.size + 1) 9 i0 (.string ⟨#[]⟩) 1 16 Tryz.underlying90 hi hz0 hz1 hz2 rfl (by decide) v2 ts.length (ts.map Value.string) (by simp [Act.eval]) (HT2.out.alloc _).own ⟨w2.heap.size, 0, none⟩ 1 1 [.string (varT ⟨#[63]⟩ (-1 - ix) pl)] (by simp [Act.eval]) rfl (cell_one_new _ _ _) (by intro u hu; simp at hu; subst hu; rfl) (by unfold maxLen; omega) (by omega) (by simp; omega) ?_
                          intro v5 w5 hown5 hg5
                          obtain ⟨g5, cap5, rfl⟩ := ownsRow_succ hown5
                          obtain ⟨q1, q2⟩ := (HT2.out.alloc _).grown hg5
                          have HN := Lib.hid (And.intro hown5 hg5)
                          clear hown5 hg5
                          try go_simp
                          refine hK _ _ ?_
                          clear hK K
                          refine wpAny_ready (rs := [9]) (by kernel_rfl) (List.cons_ne_nil _ _) ?_
                          refine AllReady.cons (o := { dst := none, op := Op.store 90 (Operand.tmp 4) (Operand.tmp 62), type := 0, pos := "text.go:31", after := #[{ on := 8, ground := Ground.data }, { on := 8, ground := Ground.chain }, { on := 0, ground := Ground.phase }, { on := 1, ground := Ground.phase }, { on := 2, ground := Ground.phase }, { on := 3, ground := Ground.phase }, { on := 4, ground := Ground.phase }, { on := 5, ground := Ground.phase }, { on := 6, ground := Ground.phase }, { on := 7, ground := Ground.phase }, { on := 8, ground := Ground.phase }], guard := none }) rfl (fun K hK => ?_) ?_
                          · go_simp
                            refine hK _ _ ?_
                            clear hK K
                            refine wpAny_done (by kernel_rfl) ?_ _
                            have HZ := Lib.hid (TX.round w3.heap.size HKT.out.1 HBS.out HB2.out HN.out.2 HN.out.1)
                            simp only [OnlyN]
                            gi_wp2_with fail
                            refine ⟨HZ.out.1, HZ.out.2.1, ⟨.slice (some ⟨g5, 0, none⟩) (ts.length + 1) cap5, ?_⟩, HKT.out.2.trans HZ.out.2.1⟩
                            rw [hst.out, ← List.append_assoc, htsk]
                            exact HZ.out.2.2
                          exact AllReady.nil
                        exact AllReady.nil
                      exact AllReady.nil
                    exact AllReady.nil
                  exact AllReady.nil
                exact AllReady.nil
              refine AllReady.cons (o := { dst := some 56, op := Op.load 3 (Operand.tmp 55), type := 3, pos := "text.go:31", after := #[{ on := 1, ground := Ground.data }], guard := none }) rfl (fun K hK => ?_) ?_
              · go_simp
                refine hK _ _ ?_
                clear hK K
                refine wpAny_take (i := 3) (v := .int .i64 (-1 - ix)) rfl (by kernel_rfl) (by kernel_rfl) (by kernel_rfl) (fun _ _ _ h => h) (Or.inl ⟨by rfl, by intro w; go_simp⟩) ?_
                refine wpAny_ready (rs := [0, 5]) (by kernel_rfl) (List.cons_ne_nil _ _) ?_
                refine AllReady.cons (o := { dst := some 54, op := Op.load 90 (Operand.tmp 4), type := 90, pos := "text.go:31", after := #[], guard := none }) rfl (fun K hK => ?_) ?_
                · go_simp
                  refine hK _ _ ?_
                  clear hK K
                  refine wpAny_ready (rs := [5]) (by kernel_rfl) (List.cons_ne_nil _ _) ?_
                  refine AllReady.cons (o := { dst := some 59, op := Op.load 3 (Operand.tmp 58), type := 3, pos := "text.go:31", after := #[{ on := 4, ground := Ground.data }], guard := none }) rfl (fun K hK => ?_) ?_
                  · go_simp
                    refine hK _ _ ?_
                    clear hK K
                    refine wpAny_ready (rs := [6]) (by kernel_rfl) (List.cons_ne_nil _ _) ?_
                    refine AllReady.cons (o := { dst := some 60, op := Op.call { callee := Callee.value (Operand.func 66), args := #[Operand.const (Value.string ⟨#[63]⟩), Operand.tmp 57, Operand.tmp 59], argTypes := #[9, 3, 3] }, type := 9, pos := "text.go:31", after := #[{ on := 3, ground := Ground.data }, { on := 5, ground := Ground.data }], guard := none }) rfl (fun K hK => ?_) ?_
                    · go_simp
                      go_at_call 66
                      refine (varText_any ⟨#[63]⟩ (-1 - ix) pl (by omega) (by omega) hy1 hy2 _ hpd.out (by decide)).mono ?_
                      rintro e w2 ⟨rfl, hb2⟩
                      have HT2 := Lib.hid (hTd.out.below hb2)
                      have q0 := HT2.out.c0
                      have qs : W.heap.size ≤ w2.heap.size := hb2.size
                      have ql : w1.heap.size < w2.heap.size := (by omega)
                      have HB2 := Lib.hid hb2
                      clear hb2
                      try go_simp
                      refine hK _ _ ?_
                      clear hK K
                      refine wpAny_ready (rs := [7]) (by kernel_rfl) (List.cons_ne_nil _ _) ?_
                      refine AllReady.cons (o := { dst := some 61, op := Op.buildSlice 90 1 #[(0, Operand.tmp 60)], type := 90, pos := "text.go:31", after := #[{ on := 6, ground := Ground.data }], guard := none }) rfl (fun K hK => ?_) ?_
                      · go_simp
                        refine hK _ _ ?_
                        clear hK K
                        refine wpAny_ready (rs := [8]) (by kernel_rfl) (List.cons_ne_nil _ _) ?_
                        refine AllReady.cons (o := { dst := some 62, op := Op.call { callee := Callee.builtin Builtin.append, args := #[Operand.tmp 54, Operand.tmp 61], argTypes := #[90, 90] }, type := 90, pos := "text.go:31", after := #[{ on := 0, ground := Ground.data }, { on := 7, ground := Ground.data }, { on := 6, ground := Ground.chain }], guard := none }) rfl (fun K hK => ?_) ?_
                        · refine step_append_mine rfl (.tmp 54) (.tmp 61) 90 rfl (w1.heap.size + 1) 9 i0 (.string ⟨#[]⟩) 1 16 Tryz.underlying90 hi hz0 hz1 hz2 rfl (by decide) v2 ts.length (ts.map Value.string) (by simp [Act.eval]) (HT2.out.alloc _).own ⟨w2.heap.size, 0, none⟩ 1 1 [.string (varT ⟨#[63]⟩ (-1 - ix) pl)] (by simp [Act.eval]) rfl (cell_one_new _ _ _) (by intro u hu; simp at hu; subst hu; rfl) (by unfold maxLen; omega) (by omega) (by simp; omega) ?_
                          intro v5 w5 hown5 hg5
                          obtain ⟨g5, cap5, rfl⟩ := ownsRow_succ hown5
                          obtain ⟨q1, q2⟩ := (HT2.out.alloc _).grown hg5
                          have HN := Lib.hid (And.intro hown5 hg5)
                          clear hown5 hg5
                          try go_simp
                          refine hK _ _ ?_
                          clear hK K
                          refine wpAny_ready (rs := [9]) (by kernel_rfl) (List.cons_ne_nil _ _) ?_
                          refine AllReady.cons (o := { dst := none, op := Op.store 90 (Operand.tmp 4) (Operand.tmp 62), type := 0, pos := "text.go:31", after := #[{ on := 8, ground := Ground.data }, { on := 8, ground := Ground.chain }, { on := 0, ground := Ground.phase }, { on := 1, ground := Ground.phase }, { on := 2, ground := Ground.phase }, { on := 3, ground := Ground.phase }, { on := 4, ground := Ground.phase }, { on := 5, ground := Ground.phase }, { on := 6, ground := Ground.phase }, { on := 7, ground := Ground.phase }, { on := 8, ground := Ground.phase }], guard := none }) rfl (fun K hK => ?_) ?_
                          · go_simp
                            refine hK _ _ ?_
                            clear hK K
                            refine wpAny_done (by kernel_rfl) ?_ _
                            have HZ := Lib.hid (TX.round w3.heap.size HKT.out.1 HBS.out HB2.out HN.out.2 HN.out.1)
                            simp only [OnlyN]
                            gi_wp2_with fail
                            refine ⟨HZ.out.1, HZ.out.2.1, ⟨.slice (some ⟨g5, 0, none⟩) (ts.length + 1) cap5, ?_⟩, HKT.out.2.trans HZ.out.2.1⟩
                            rw [hst.out, ← List.append_assoc, htsk]
                            exact HZ.out.2.2
                          exact AllReady.nil
                        exact AllReady.nil
                      exact AllReady.nil
                    exact AllReady.nil
                  exact AllReady.nil
                refine AllReady.cons (o := { dst := some 59, op := Op.load 3 (Operand.tmp 58), type := 3, pos := "text.go:31", after := #[{ on := 4, ground := Ground.data }], guard := none }) rfl (fun K hK => ?_) ?_
                · go_simp
                  refine hK _ _ ?_
                  clear hK K
                  refine wpAny_ready (rs := [0, 6]) (by kernel_rfl) (List.cons_ne_nil _ _) ?_
                  refine AllReady.cons (o := { dst := some 54, op := Op.load 90 (Operand.tmp 4), type := 90, pos := "text.go:31", after := #[], guard := none }) rfl (fun K hK => ?_) ?_
                  · go_simp
                    refine hK _ _ ?_
                    clear hK K
                    refine wpAny_ready (rs := [6]) (by kernel_rfl) (List.cons_ne_nil _ _) ?_
                    refine AllReady.cons (o := { dst := some 60, op := Op.call { callee := Callee.value (Operand.func 66), args := #[Operand.const (Value.string ⟨#[63]⟩), Operand.tmp 57, Operand.tmp 59], argTypes := #[9, 3, 3] }, type := 9, pos := "text.go:31", after := #[{ on := 3, ground := Ground.data }, { on := 5, ground := Ground.data }], guard := none }) rfl (fun K hK => ?_) ?_
                    · go_simp
                      go_at_call 66
                      refine (varText_any ⟨#[63]⟩ (-1 - ix) pl (by omega) (by omega) hy1 hy2 _ hpd.out (by decide)).mono ?_
                      rintro e w2 ⟨rfl, hb2⟩
                      have HT2 := Lib.hid (hTd.out.below hb2)
                      have q0 := HT2.out.c0
                      have qs : W.heap.size ≤ w2.heap.size := hb2.size
                      have ql : w1.heap.size < w2.heap.size := (by omega)
                      have HB2 := Lib.hid hb2
                      clear hb2
                      try go_simp
                      refine hK _ _ ?_
                      clear hK K
                      refine wpAny_ready (rs := [7]) (by kernel_rfl) (List.cons_ne_nil _ _) ?_
                      refine AllReady.cons (o := { dst := some 61, op := Op.buildSlice 90 1 #[(0, Operand.tmp 60)], type := 90, pos := "text.go:31", after := #[{ on := 6, ground := Ground.data }], guard := none }) rfl (fun K hK => ?_) ?_
                      · go_simp
                        refine hK _ _ ?_
                        clear hK K
                        refine wpAny_ready (rs := [8]) (by kernel_rfl) (List.cons_ne_nil _ _) ?_
                        refine AllReady.cons (o := { dst := some 62, op := Op.call { callee := Callee.builtin Builtin.append, args := #[Operand.tmp 54, Operand.tmp 61], argTypes := #[90, 90] }, type := 90, pos := "text.go:31", after := #[{ on := 0, ground := Ground.data }, { on := 7, ground := Ground.data }, { on := 6, ground := Ground.chain }], guard := none }) rfl (fun K hK => ?_) ?_
                        · refine step_append_mine rfl (.tmp 54) (.tmp 61) 90 rfl (w1.heap.size + 1) 9 i0 (.string ⟨#[]⟩) 1 16 Tryz.underlying90 hi hz0 hz1 hz2 rfl (by decide) v2 ts.length (ts.map Value.string) (by simp [Act.eval]) (HT2.out.alloc _).own ⟨w2.heap.size, 0, none⟩ 1 1 [.string (varT ⟨#[63]⟩ (-1 - ix) pl)] (by simp [Act.eval]) rfl (cell_one_new _ _ _) (by intro u hu; simp at hu; subst hu; rfl) (by unfold maxLen; omega) (by omega) (by simp; omega) ?_
                          intro v5 w5 hown5 hg5
                          obtain ⟨g5, cap5, rfl⟩ := ownsRow_succ hown5
                          obtain ⟨q1, q2⟩ := (HT2.out.alloc _).grown hg5
                          have HN := Lib.hid (And.intro hown5 hg5)
                          clear hown5 hg5
                          try go_simp
                          refine hK _ _ ?_
                          clear hK K
                          refine wpAny_ready (rs := [9]) (by kernel_rfl) (List.cons_ne_nil _ _) ?_
                          refine AllReady.cons (o := { dst := none, op := Op.store 90 (Operand.tmp 4) (Operand.tmp 62), type := 0, pos := "text.go:31", after := #[{ on := 8, ground := Ground.data }, { on := 8, ground := Ground.chain }, { on := 0, ground := Ground.phase }, { on := 1, ground := Ground.phase }, { on := 2, ground := Ground.phase }, { on := 3, ground := Ground.phase }, { on := 4, ground := Ground.phase }, { on := 5, ground := Ground.phase }, { on := 6, ground := Ground.phase }, { on := 7, ground := Ground.phase }, { on := 8, ground := Ground.phase }], guard := none }) rfl (fun K hK => ?_) ?_
                          · go_simp
                            refine hK _ _ ?_
                            clear hK K
                            refine wpAny_done (by kernel_rfl) ?_ _
                            have HZ := Lib.hid (TX.round w3.heap.size HKT.out.1 HBS.out HB2.out HN.out.2 HN.out.1)
                            simp only [OnlyN]
                            gi_wp2_with fail
                            refine ⟨HZ.out.1, HZ.out.2.1, ⟨.slice (some ⟨g5, 0, none⟩) (ts.length + 1) cap5, ?_⟩, HKT.out.2.trans HZ.out.2.1⟩
                            rw [hst.out, ← List.append_assoc, htsk]
                            exact HZ.out.2.2
                          exact AllReady.nil
                        exact AllReady.nil
                      exact AllReady.nil
                    exact AllReady.nil
                  refine AllReady.cons (o := { dst := some 60, op := Op.call { callee := Callee.value (Operand.func 66), args := #[Operand.const (Value.string ⟨#[63]⟩), Operand.tmp 57, Operand.tmp 59], argTypes := #[9, 3, 3] }, type := 9, pos := "text.go:31", after := #[{ on := 3, ground := Ground.data }, { on := 5, ground := Ground.data }], guard := none }) rfl (fun K hK => ?_) ?_
                  · go_simp
                    go_at_call 66
                    refine (varText_any ⟨#[63]⟩ (-1 - ix) pl (by omega) (by omega) hy1 hy2 _ hpd.out (by decide)).mono ?_
                    rintro e w2 ⟨rfl, hb2⟩
                    have HT2 := Lib.hid (hTd.out.below hb2)
                    have q0 := HT2.out.c0
                    have qs : W.heap.size ≤ w2.heap.size := hb2.size
                    have ql : w1.heap.size < w2.heap.size := (by omega)
                    have HB2 := Lib.hid hb2
                    clear hb2
                    try go_simp
                    refine hK _ _ ?_
                    clear hK K
                    refine wpAny_ready (rs := [0, 7]) (by kernel_rfl) (List.cons_ne_nil _ _) ?_
                    refine AllReady.cons (o := { dst := some 54, op := Op.load 90 (Operand.tmp 4), type := 90, pos := "text.go:31", after := #[], guard := none }) rfl (fun K hK => ?_) ?_
                    · go_simp
                      refine hK _ _ ?_
                      clear hK K
                      refine wpAny_ready (rs := [7]) (by kernel_rfl) (List.cons_ne_nil _ _) ?_
                      refine AllReady.cons (o := { dst := some 61, op := Op.buildSlice 90 1 #[(0, Operand.tmp 60)], type := 90, pos := "text.go:31", after := #[{ on := 6, ground := Ground.data }], guard := none }) rfl (fun K hK => ?_) ?_
                      · go_simp
                        refine hK _ _ ?_
                        clear hK K
                        refine wpAny_ready (rs := [8]) (by kernel_rfl) (List.cons_ne_nil _ _) ?_
                        refine AllReady.cons (o := { dst := some 62, op := Op.call { callee := Callee.builtin Builtin.append, args := #[Operand.tmp 54, Operand.tmp 61], argTypes := #[90, 90] }, type := 90, pos := "text.go:31", after := #[{ on := 0, ground := Ground.data }, { on := 7, ground := Ground.data }, { on := 6, ground := Ground.chain }], guard := none }) rfl (fun K hK => ?_) ?_
                        · refine step_append_mine rfl (.tmp 54) (.tmp 61) 90 rfl (w1.heap.size + 1) 9 i0 (.string ⟨#[]⟩) 1 16 Tryz.underlying90 hi hz0 hz1 hz2 rfl (by decide) v2 ts.length (ts.map Value.string) (by simp [Act.eval]) (HT2.out.alloc _).own ⟨w2.heap.size, 0, none⟩ 1 1 [.string (varT ⟨#[63]⟩ (-1 - ix) pl)] (by simp [Act.eval]) rfl (cell_one_new _ _ _) (by intro u hu; simp at hu; subst hu; rfl) (by unfold maxLen; omega) (by omega) (by simp; omega) ?_
                          intro v5 w5 hown5 hg5
                          obtain ⟨g5, cap5, rfl⟩ := ownsRow_succ hown5
                          obtain ⟨q1, q2⟩ := (HT2.out.alloc _).grown hg5
                          have HN := Lib.hid (And.intro hown5 hg5)
                          clear hown5 hg5
                          try go_simp
                          refine hK _ _ ?_
                          clear hK K
                          refine wpAny_ready (rs := [9]) (by kernel_rfl) (List.cons_ne_nil _ _) ?_
                          refine AllReady.cons (o := { dst := none, op := Op.store 90 (Operand.tmp 4) (Operand.tmp 62), type := 0, pos := "text.go:31", after := #[{ on := 8, ground := Ground.data }, { on := 8, ground := Ground.chain }, { on := 0, ground := Ground.phase }, { on := 1, ground := Ground.phase }, { on := 2, ground := Ground.phase }, { on := 3, ground := Ground.phase }, { on := 4, ground := Ground.phase }, { on := 5, ground := Ground.phase }, { on := 6, ground := Ground.phase }, { on := 7, ground := Ground.phase }, { on := 8, ground := Ground.phase }], guard := none }) rfl (fun K hK => ?_) ?_
                          · go_simp
                            refine hK _ _ ?_
                            clear hK K
                            refine wpAny_done (by kernel_rfl) ?_ _
                            have HZ := Lib.hid (TX.round w3.heap.size HKT.out.1 HBS.out HB2.out HN.out.2 HN.out.1)
                            simp only [OnlyN]
                            gi_wp2_with fail
                            refine ⟨HZ.out.1, HZ.out.2.1, ⟨.slice (some ⟨g5, 0, none⟩) (ts.length + 1) cap5, ?_⟩, HKT.out.2.trans HZ.out.2.1⟩
                            rw [hst.out, ← List.append_assoc, htsk]
                            exact HZ.out.2.2
                          exact AllReady.nil
                        exact AllReady.nil
                      exact AllReady.nil
                    refine AllReady.cons (o := { dst := some 61, op := Op.buildSlice 90 1 #[(0, Operand.tmp 60)], type := 90, pos := "text.go:31", after := #[{ on := 6, ground := Ground.data }], guard := none }) rfl (fun K hK => ?_) ?_
                    · go_simp
                      refine hK _ _ ?_
                      clear hK K
                      refine wpAny_ready (rs := [0]) (by kernel_rfl) (List.cons_ne_nil _ _) ?_
                      refine AllReady.cons (o := { dst := some 54, op := Op.load 90 (Operand.tmp 4), type := 90, pos := "text.go:31", after := #[], guard := none }) rfl (fun K hK => ?_) ?_
                      · go_simp
                        refine hK _ _ ?_
                        clear hK K
                        refine wpAny_ready (rs := [8]) (by kernel_rfl) (List.cons_ne_nil _ _) ?_
                        refine AllReady.cons (o := { dst := some 62, op := Op.call { callee := Callee.builtin Builtin.append, args := #[Operand.tmp 54, Operand.tmp 61], argTypes := #[90, 90] }, type := 90, pos := "text.go:31", after := #[{ on := 0, ground := Ground.data }, { on := 7, ground := Ground.data }, { on := 6, ground := Ground.chain }], guard := none }) rfl (fun K hK => ?_) ?_
                        · refine step_append_mine rfl (.tmp 54) (.tmp 61) 90 rfl (w1.heap.size + 1) 9 i0 (.string ⟨#[]⟩) 1 16 Tryz.underlying90 hi hz0 hz1 hz2 rfl (by decide) v2 ts.length (ts.map Value.string) (by simp [Act.eval]) (HT2.out.alloc _).own ⟨w2.heap.size, 0, none⟩ 1 1 [.string (varT ⟨#[63]⟩ (-1 - ix) pl)] (by simp [Act.eval]) rfl (cell_one_new _ _ _) (by intro u hu; simp at hu; subst hu; rfl) (by unfold maxLen; omega) (by omega) (by simp; omega) ?_
                          intro v5 w5 hown5 hg5
                          obtain ⟨g5, cap5, rfl⟩ := ownsRow_succ hown5
                          obtain ⟨q1, q2⟩ := (HT2.out.alloc _).grown hg5
                          have HN := Lib.hid (And.intro hown5 hg5)
                          clear hown5 hg5
                          try go_simp
                          refine hK _ _ ?_
                          clear hK K
                          refine wpAny_ready (rs := [9]) (by kernel_rfl) (List.cons_ne_nil _ _) ?_
                          refine AllReady.cons (o := { dst := none, op := Op.store 90 (Operand.tmp 4) (Operand.tmp 62), type := 0, pos := "text.go:31", after := #[{ on := 8, ground := Ground.data }, { on := 8, ground := Ground.chain }, { on := 0, ground := Ground.phase }, { on := 1, ground := Ground.phase }, { on := 2, ground := Ground.phase }, { on := 3, ground := Ground.phase }, { on := 4, ground := Ground.phase }, { on := 5, ground := Ground.phase }, { on := 6, ground := Ground.phase }, { on := 7, ground := Ground.phase }, { on := 8, ground := Ground.phase }], guard := none }) rfl (fun K hK => ?_) ?_
                          · go_simp
                            refine hK _ _ ?_
                            clear hK K
                            refine wpAny_done (by kernel_rfl) ?_ _
                            have HZ := Lib.hid (TX.round w3.heap.size HKT.out.1 HBS.out HB2.out HN.out.2 HN.out.1)
                            simp only [OnlyN]
                            gi_wp2_with fail
                            refine ⟨HZ.out.1, HZ.out.2.1, ⟨.slice (some ⟨g5, 0, none⟩) (ts.length + 1) cap5, ?_⟩, HKT.out.2.trans HZ.out.2.1⟩
                            rw [hst.out, ← List.append_assoc, htsk]
                            exact HZ.out.2.2
                          exact AllReady.nil
                        exact AllReady.nil
                      exact AllReady.nil
                    exact AllReady.nil
                  exact AllReady.nil
                exact AllReady.nil
              refine AllReady.cons (o := { dst := some 59, op := Op.load 3 (Operand.tmp 58), type := 3, pos := "text.go:31", after := #[{ on := 4, ground := Ground.data }], guard := none }) rfl (fun K hK => ?_) ?_
              · go_simp
                refine hK _ _ ?_
                clear hK K
                refine wpAny_ready (rs := [0, 2]) (by kernel_rfl) (List.cons_ne_nil _ _) ?_
                refine AllReady.cons (o := { dst := some 54, op := Op.load 90 (Operand.tmp 4), type := 90, pos := "text.go:31", after := #[], guard := none }) rfl (fun K hK => ?_) ?_
                · go_simp
                  refine hK _ _ ?_
                  clear hK K
                  refine wpAny_ready (rs := [2]) (by kernel_rfl) (List.cons_ne_nil _ _) ?_
                  refine AllReady.cons (o := { dst := some 56, op := Op.load 3 (Operand.tmp 55), type := 3, pos := "text.go:31", after := #[{ on := 1, ground := Ground.data }], guard := none }) rfl (fun K hK => ?_) ?_
                  · go_simp
                    refine hK _ _ ?_
                    clear hK K
                    refine wpAny_take (i := 3) (v := .int .i64 (-1 - ix)) rfl (by kernel_rfl) (by kernel_rfl) (by kernel_rfl) (fun _ _ _ h => h) (Or.inl ⟨by rfl, by intro w; go_simp⟩) ?_
                    refine wpAny_ready (rs := [6]) (by kernel_rfl) (List.cons_ne_nil _ _) ?_
                    refine AllReady.cons (o := { dst := some 60, op := Op.call { callee := Callee.value (Operand.func 66), args := #[Operand.const (Value.string ⟨#[63]⟩), Operand.tmp 57, Operand.tmp 59], argTypes := #[9, 3, 3] }, type := 9, pos := "text.go:31", after := #[{ on := 3, ground := Ground.data }, { on := 5, ground := Ground.data }], guard := none }) rfl (fun K hK => ?_) ?_
                    · go_simp
                      go_at_call 66
                      refine (varText_any ⟨#[63]⟩ (-1 - ix) pl (by omega) (by omega) hy1 hy2 _ hpd.out (by decide)).mono ?_
                      rintro e w2 ⟨rfl, hb2⟩
                      have HT2 := Lib.hid (hTd.out.below hb2)
                      have q0 := HT2.out.c0
                      have qs : W.heap.size ≤ w2.heap.size := hb2.size
                      have ql : w1.heap.size < w2.heap.size := (by omega)
                      have HB2 := Lib.hid hb2
                      clear hb2
                      try go_simp
                      refine hK _ _ ?_
                      clear hK K
                      refine wpAny_ready (rs := [7]) (by kernel_rfl) (List.cons_ne_nil _ _) ?_
                      refine AllReady.cons (o := { dst := some 61, op := Op.buildSlice 90 1 #[(0, Operand.tmp 60)], type := 90, pos := "text.go:31", after := #[{ on := 6, ground := Ground.data }], guard := none }) rfl (fun K hK => ?_) ?_
                      · go_simp
                        refine hK _ _ ?_
                        clear hK K
                        refine wpAny_ready (rs := [8]) (by kernel_rfl) (List.cons_ne_nil _ _) ?_
                        refine AllReady.cons (o := { dst := some 62, op := Op.call { callee := Callee.builtin Builtin.append, args := #[Operand.tmp 54, Operand.tmp 61], argTypes := #[90, 90] }, type := 90, pos := "text.go:31", after := #[{ on := 0, ground := Ground.data }, { on := 7, ground := Ground.data }, { on := 6, ground := Ground.chain }], guard := none }) rfl (fun K hK => ?_) ?_
                        · refine step_append_mine rfl (.tmp 54) (.tmp 61) 90 rfl (w1.heap.size + 1) 9 i0 (.string ⟨#[]⟩) 1 16 Tryz.underlying90 hi hz0 hz1 hz2 rfl (by decide) v2 ts.length (ts.map Value.string) (by simp [Act.eval]) (HT2.out.alloc _).own ⟨w2.heap.size, 0, none⟩ 1 1 [.string (varT ⟨#[63]⟩ (-1 - ix) pl)] (by simp [Act.eval]) rfl (cell_one_new _ _ _) (by intro u hu; simp at hu; subst hu; rfl) (by unfold maxLen; omega) (by omega) (by simp; omega) ?_
                          intro v5 w5 hown5 hg5
                          obtain ⟨g5, cap5, rfl⟩ := ownsRow_succ hown5
                          obtain ⟨q1, q2⟩ := (HT2.out.alloc _).grown hg5
                          have HN := Lib.hid (And.intro hown5 hg5)
                          clear hown5 hg5
                          try go_simp
                          refine hK _ _ ?_
                          clear hK K
                          refine wpAny_ready (rs := [9]) (by kernel_rfl) (List.cons_ne_nil _ _) ?_
                          refine AllReady.cons (o := { dst := none, op := Op.store 90 (Operand.tmp 4) (Operand.tmp 62), type := 0, pos := "text.go:31", after := #[{ on := 8, ground := Ground.data }, { on := 8, ground := Ground.chain }, { on := 0, ground := Ground.phase }, { on := 1, ground := Ground.phase }, { on := 2, ground := Ground.phase }, { on := 3, ground := Ground.phase }, { on := 4, ground := Ground.phase }, { on := 5, ground := Ground.phase }, { on := 6, ground := Ground.phase }, { on := 7, ground := Ground.phase }, { on := 8, ground := Ground.phase }], guard := none }) rfl (fun K hK => ?_) ?_
                          · go_simp
                            refine hK _ _ ?_
                            clear hK K
                            refine wpAny_done (by kernel_rfl) ?_ _
                            have HZ := Lib.hid (TX.round w3.heap.size HKT.out.1 HBS.out HB2.out HN.out.2 HN.out.1)
                            simp only [OnlyN]
                            gi_wp2_with fail
                            refine ⟨HZ.out.1, HZ.out.2.1, ⟨.slice (some ⟨g5, 0, none⟩) (ts.length + 1) cap5, ?_⟩, HKT.out.2.trans HZ.out.2.1⟩
                            rw [hst.out, ← List.append_assoc, htsk]
                            exact HZ.out.2.2
                          exact AllReady.nil
                        exact AllReady.nil
                      exact AllReady.nil
                    exact AllReady.nil
                  exact AllReady.nil
                refine AllReady.cons (o := { dst := some 56, op := Op.load 3 (Operand.tmp 55), type := 3, pos := "text.go:31", after := #[{ on := 1, ground := Ground.data }], guard := none }) rfl (fun K hK => ?_) ?_
                · go_simp
                  refine hK _ _ ?_
                  clear hK K
                  refine wpAny_take (i := 3) (v := .int .i64 (-1 - ix)) rfl (by kernel_rfl) (by kernel_rfl) (by kernel_rfl) (fun _ _ _ h => h) (Or.inl ⟨by rfl, by intro w; go_simp⟩) ?_
                  refine wpAny_ready (rs := [0, 6]) (by kernel_rfl) (List.cons_ne_nil _ _) ?_
                  refine AllReady.cons (o := { dst := some 54, op := Op.load 90 (Operand.tmp 4), type := 90, pos := "text.go:31", after := #[], guard := none }) rfl (fun K hK => ?_) ?_
                  · go_simp
                    refine hK _ _ ?_
                    clear hK K
                    refine wpAny_ready (rs := [6]) (by kernel_rfl) (List.cons_ne_nil _ _) ?_
                    refine AllReady.cons (o := { dst := some 60, op := Op.call { callee := Callee.value (Operand.func 66), args := #[Operand.const (Value.string ⟨#[63]⟩), Operand.tmp 57, Operand.tmp 59], argTypes := #[9, 3, 3] }, type := 9, pos := "text.go:31", after := #[{ on := 3, ground := Ground.data }, { on := 5, ground := Ground.data }], guard := none }) rfl (fun K hK => ?_) ?_
                    · go_simp
                      go_at_call 66
                      refine (varText_any ⟨#[63]⟩ (-1 - ix) pl (by omega) (by omega) hy1 hy2 _ hpd.out (by decide)).mono ?_
                      rintro e w2 ⟨rfl, hb2⟩
                      have HT2 := Lib.hid (hTd.out.below hb2)
                      have q0 := HT2.out.c0
                      have qs : W.heap.size ≤ w2.heap.size := hb2.size
                      have ql : w1.heap.size < w2.heap.size := (by omega)
                      have HB2 := Lib.hid hb2
                      clear hb2
                      try go_simp
                      refine hK _ _ ?_
                      clear hK K
                      refine wpAny_ready (rs := [7]) (by kernel_rfl) (List.cons_ne_nil _ _) ?_
                      refine AllReady.cons (o := { dst := some 61, op := Op.buildSlice 90 1 #[(0, Operand.tmp 60)], type := 90, pos := "text.go:31", after := #[{ on := 6, ground := Ground.data }], guard := none }) rfl (fun K hK => ?_) ?_
                      · go_simp
                        refine hK _ _ ?_
                        clear hK K
                        refine wpAny_ready (rs := [8]) (by kernel_rfl) (List.cons_ne_nil _ _) ?_
                        refine AllReady.cons (o := { dst := some 62, op := Op.call { callee := Callee.builtin Builtin.append, args := #[Operand.tmp 54, Operand.tmp 61], argTypes := #[90, 90] }, type := 90, pos := "text.go:31", after := #[{ on := 0, ground := Ground.data }, { on := 7, ground := Ground.data }, { on := 6, ground := Ground.chain }], guard := none }) rfl (fun K hK => ?_) ?_
                        · refine step_append_mine rfl (.tmp 54) (.tmp 61) 90 rfl (w1.heap.size + 1) 9 i0 (.string ⟨#[]⟩) 1 16 Tryz.underlying90 hi hz0 hz1 hz2 rfl (by decide) v2 ts.length (ts.map Value.string) (by simp [Act.eval]) (HT2.out.alloc _).own ⟨w2.heap.size, 0, none⟩ 1 1 [.string (varT ⟨#[63]⟩ (-1 - ix) pl)] (by simp [Act.eval]) rfl (cell_one_new _ _ _) (by intro u hu; simp at hu; subst hu; rfl) (by unfold maxLen; omega) (by omega) (by simp; omega) ?_
                          intro v5 w5 hown5 hg5
                          obtain ⟨g5, cap5, rfl⟩ := ownsRow_succ hown5
                          obtain ⟨q1, q2⟩ := (HT2.out.alloc _).grown hg5
                          have HN := Lib.hid (And.intro hown5 hg5)
                          clear hown5 hg5
                          try go_simp
                          refine hK _ _ ?_
                          clear hK K
                          refine wpAny_ready (rs := [9]) (by kernel_rfl) (List.cons_ne_nil _ _) ?_
                          refine AllReady.cons (o := { dst := none, op := Op.store 90 (Operand.tmp 4) (Operand.tmp 62), type := 0, pos := "text.go:31", after := #[{ on := 8, ground := Ground.data }, { on := 8, ground := Ground.chain }, { on := 0, ground := Ground.phase }, { on := 1, ground := Ground.phase }, { on := 2, ground := Ground.phase }, { on := 3, ground := Ground.phase }, { on := 4, ground := Ground.phase }, { on := 5, ground := Ground.phase }, { on := 6, ground := Ground.phase }, { on := 7, ground := Ground.phase }, { on := 8, ground := Ground.phase }], guard := none }) rfl (fun K hK => ?_) ?_
                          · go_simp
                            refine hK _ _ ?_
                            clear hK K
                            refine wpAny_done (by kernel_rfl) ?_ _
                            have HZ := Lib.hid (TX.round w3.heap.size HKT.out.1 HBS.out HB2.out HN.out.2 HN.out.1)
                            simp only [OnlyN]
                            gi_wp2_with fail
                            refine ⟨HZ.out.1, HZ.out.2.1, ⟨.slice (some ⟨g5, 0, none⟩) (ts.length + 1) cap5, ?_⟩, HKT.out.2.trans HZ.out.2.1⟩
                            rw [hst.out, ← List.append_assoc, htsk]
                            exact HZ.out.2.2
                          exact AllReady.nil
                        exact AllReady.nil
                      exact AllReady.nil
                    exact AllReady.nil
                  refine AllReady.cons (o := { dst := some 60, op := Op.call { callee := Callee.value (Operand.func 66), args := #[Operand.const (Value.string ⟨#[63]⟩), Operand.tmp 57, Operand.tmp 59], argTypes := #[9, 3, 3] }, type := 9, pos := "text.go:31", after := #[{ on := 3, ground := Ground.data }, { on := 5, ground := Ground.data }], guard := none }) rfl (fun K hK => ?_) ?_
                  · go_simp
                    go_at_call 66
                    refine (varText_any ⟨#[63]⟩ (-1 - ix) pl (by omega) (by omega) hy1 hy2 _ hpd.out (by decide)).mono ?_
                    rintro e w2 ⟨rfl, hb2⟩
                    have HT2 := Lib.hid (hTd.out.below hb2)
                    have q0 := HT2.out.c0
                    have qs : W.heap.size ≤ w2.heap.size := hb2.size
                    have ql : w1.heap.size < w2.heap.size := (by omega)
                    have HB2 := Lib.hid hb2
                    clear hb2
                    try go_simp
                    refine hK _ _ ?_
                    clear hK K
                    refine wpAny_ready (rs := [0, 7]) (by kernel_rfl) (List.cons_ne_nil _ _) ?_
                    refine AllReady.cons (o := { dst := some 54, op := Op.load 90 (Operand.tmp 4), type := 90, pos := "text.go:31", after := #[], guard := none }) rfl (fun K hK => ?_) ?_
                    · go_simp
                      refine hK _ _ ?_
                      clear hK K
                      refine wpAny_ready (rs := [7]) (by kernel_rfl) (List.cons_ne_nil _ _) ?_
                      refine AllReady.cons (o := { dst := some 61, op := Op.buildSlice 90 1 #[(0, Operand.tmp 60)], type := 90, pos := "text.go:31", after := #[{ on := 6, ground := Ground.data }], guard := none }) rfl (fun K hK => ?_) ?_
                      · go_simp
                        refine hK _ _ ?_
                        clear hK K
                        refine wpAny_ready (rs := [8]) (by kernel_rfl) (List.cons_ne_nil _ _) ?_
                        refine AllReady.cons (o := { dst := some 62, op := Op.call { callee := Callee.builtin Builtin.append, args := #[Operand.tmp 54, Operand.tmp 61], argTypes := #[90, 90] }, type := 90, pos := "text.go:31", after := #[{ on := 0, ground := Ground.data }, { on := 7, ground := Ground.data }, { on := 6, ground := Ground.chain }], guard := none }) rfl (fun K hK => ?_) ?_
                        · refine step_append_mine rfl (.tmp 54) (.tmp 61) 90 rfl (w1.heap.size + 1) 9 i0 (.string ⟨#[]⟩) 1 16 Tryz.underlying90 hi hz0 hz1 hz2 rfl (by decide) v2 ts.length (ts.map Value.string) (by simp [Act.eval]) (HT2.out.alloc _).own ⟨w2.heap.size, 0, none⟩ 1 1 [.string (varT ⟨#[63]⟩ (-1 - ix) pl)] (by simp [Act.eval]) rfl (cell_one_new _ _ _) (by intro u hu; simp at hu; subst hu; rfl) (by unfold maxLen; omega) (by omega) (by simp; omega) ?_
                          intro v5 w5 hown5 hg5
                          obtain ⟨g5, cap5, rfl⟩ := ownsRow_succ hown5
                          obtain ⟨q1, q2⟩ := (HT2.out.alloc _).grown hg5
                          have HN := Lib.hid (And.intro hown5 hg5)
                          clear hown5 hg5
                          try go_simp
                          refine hK _ _ ?_
                          clear hK K
                          refine wpAny_ready (rs := [9]) (by kernel_rfl) (List.cons_ne_nil _ _) ?_
                          refine AllReady.cons (o := { dst := none, op := Op.store 90 (Operand.tmp 4) (Operand.tmp 62), type := 0, pos := "text.go:31", after := #[{ on := 8, ground := Ground.data }, { on := 8, ground := Ground.chain }, { on := 0, ground := Ground.phase }, { on := 1, ground := Ground.phase }, { on := 2, ground := Ground.phase }, { on := 3, ground := Ground.phase }, { on := 4, ground := Ground.phase }, { on := 5, ground := Ground.phase }, { on := 6, ground := Ground.phase }, { on := 7, ground := Ground.phase }, { on := 8, ground := Ground.phase }], guard := none }) rfl (fun K hK => ?_) ?_
                          · go_simp
                            refine hK _ _ ?_
                            clear hK K
                            refine wpAny_done (by kernel_rfl) ?_ _
                            have HZ := Lib.hid (TX.round w3.heap.size HKT.out.1 HBS.out HB2.out HN.out.2 HN.out.1)
                            simp only [OnlyN]
                            gi_wp2_with fail
                            refine ⟨HZ.out.1, HZ.out.2.1, ⟨.slice (some ⟨g5, 0, none⟩) (ts.length + 1) cap5, ?_⟩, HKT.out.2.trans HZ.out.2.1⟩
                            rw [hst.out, ← List.append_assoc, htsk]
                            exact HZ.out.2.2
                          exact AllReady.nil
                        exact AllReady.nil
                      exact AllReady.nil
                    refine AllReady.cons (o := { dst := some 61, op := Op.buildSlice 90 1 #[(0, Operand.tmp 60)], type := 90, pos := "text.go:31", after := #[{ on := 6, ground := Ground.data }], guard := none }) rfl (fun K hK => ?_) ?_
                    · go_simp
                      refine hK _ _ ?_
                      clear hK K
                      refine wpAny_ready (rs := [0]) (by kernel_rfl) (List.cons_ne_nil _ _) ?_
                      refine AllReady.cons (o := { dst := some 54, op := Op.load 90 (Operand.tmp 4), type := 90, pos := "text.go:31", after := #[], guard := none }) rfl (fun K hK => ?_) ?_
                      · go_simp
                        refine hK _ _ ?_
                        clear hK K
                        refine wpAny_ready (rs := [8]) (by kernel_rfl) (List.cons_ne_nil _ _) ?_
                        refine AllReady.cons (o := { dst := some 62, op := Op.call { callee := Callee.builtin Builtin.append, args := #[Operand.tmp 54, Operand.tmp 61], argTypes := #[90, 90] }, type := 90, pos := "text.go:31", after := #[{ on := 0, ground := Ground.data }, { on := 7, ground := Ground.data }, { on := 6, ground := Ground.chain }], guard := none }) rfl (fun K hK => ?_) ?_
                        · refine step_append_mine rfl (.tmp 54) (.tmp 61) 90 rfl (w1.heap.size + 1) 9 i0 (.string ⟨#[]⟩) 1 16 Tryz.underlying90 hi hz0 hz1 hz2 rfl (by decide) v2 ts.length (ts.map Value.string) (by simp [Act.eval]) (HT2.out.alloc _).own ⟨w2.heap.size, 0, none⟩ 1 1 [.string (varT ⟨#[63]⟩ (-1 - ix) pl)] (by simp [Act.eval]) rfl (cell_one_new _ _ _) (by intro u hu; simp at hu; subst hu; rfl) (by unfold maxLen; omega) (by omega) (by simp; omega) ?_
                          intro v5 w5 hown5 hg5
                          obtain ⟨g5, cap5, rfl⟩ := ownsRow_succ hown5
                          obtain ⟨q1, q2⟩ := (HT2.out.alloc _).grown hg5
                          have HN := Lib.hid (And.intro hown5 hg5)
                          clear hown5 hg5
                          try go_simp
                          refine hK _ _ ?_
                          clear hK K
                          refine wpAny_ready (rs := [9]) (by kernel_rfl) (List.cons_ne_nil _ _) ?_
                          refine AllReady.cons (o := { dst := none, op := Op.store 90 (Operand.tmp 4) (Operand.tmp 62), type := 0, pos := "text.go:31", after := #[{ on := 8, ground := Ground.data }, { on := 8, ground := Ground.chain }, { on := 0, ground := Ground.phase }, { on := 1, ground := Ground.phase }, { on := 2, ground := Ground.phase }, { on := 3, ground := Ground.phase }, { on := 4, ground := Ground.phase }, { on := 5, ground := Ground.phase }, { on := 6, ground := Ground.phase }, { on := 7, ground := Ground.phase }, { on := 8, ground := Ground.phase }], guard := none }) rfl (fun K hK => ?_) ?_
                          · go_simp
                            refine hK _ _ ?_
                            clear hK K
                            refine wpAny_done (by kernel_rfl) ?_ _
                            have HZ := Lib.hid (TX.round w3.heap.size HKT.out.1 HBS.out HB2.out HN.out.2 HN.out.1)
                            simp only [OnlyN]
                            gi_wp2_with fail
                            refine ⟨HZ.out.1, HZ.out.2.1, ⟨.slice (some ⟨g5, 0, none⟩) (ts.length + 1) cap5, ?_⟩, HKT.out.2.trans HZ.out.2.1⟩
                            rw [hst.out, ← List.append_assoc, htsk]
                            exact HZ.out.2.2
                          exact AllReady.nil
                        exact AllReady.nil
                      exact AllReady.nil
                    exact AllReady.nil
                  exact AllReady.nil
                exact AllReady.nil
              exact AllReady.nil
            · have hst := Lib.hid (tsB_no (pre := pre) hneg)
              have hcx0 : W.cell? ⟨Bx, 0, none⟩ = some (.int .i64 vs[x].1) := by simp [World.cell?, hcx]
              gi_wp2_with fail
              refine ⟨KeepsOthers.from (KeepsOthers.refl _) _, KAB.refl _ _ _ _, ⟨v2, ?_⟩, hk⟩
              rw [hst.out, ← List.append_assoc]
              exact hT2
          case done =>
            rintro D ys W hD rfl ⟨⟨v2, hT2⟩, hk⟩ hK
            rw [tsB_end] at hT2
            have hT : TX W w1.heap.size (txtL c vs) v2 := hT2
            have hsz := txtL_size hcr.1 hcr.2 HOK.out
            have hln : (txtL c vs).length ≤ 200000 := by
              have h1 := tsC_len c vs
              have h2 := tsU_len vs
              have h3 := tsQ_len vs.reverse
              simp only [txtL, List.length_append, List.length_reverse] at h3 ⊢
              omega
            have hbW : Below w1.heap.size w1 W := HB3.out.trans hk.below
            have hsW := hk.size
            have HF := Lib.hid (And.intro hT (And.intro hbW (And.intro hK (And.intro hsz hln))))
            have c4 := hT.c0
            have hsl : ∃ A2 cap2, v2 = .slice A2 (txtL c vs).length cap2 := by
              rcases hT.own.2 with ⟨rfl, h0⟩ | ⟨g, cap2, cur, rfl, _⟩
              · exact ⟨none, 0, by rw [h0]⟩
              · exact ⟨_, _, rfl⟩
            obtain ⟨A2, cap2, rfl⟩ := hsl
            clear hT hT2 hk hK hbW hsz hln
            have hdl : D < W.heap.size := (Array.getElem?_eq_some_iff.1 HF.out.2.2.1).1
            have hbf := Lib.hid (show ∀ W', Below W.heap.size W W' → Below w.heap.size w (W'.putObj D (.deferred none)) from fun W' hb => Below.grown ((((((Below.refl w.heap.size w).alloc (Nat.le_refl _) _).trans (H1.out.mono (by simp))).trans (HF.out.2.1.mono (by omega))).trans (hb.mono (by omega)))) (grownBy_putObj' W' D _) (by have := hb.size; omega) (fun r e => by cases e; omega))
            have hdf := Lib.hid (show ∀ W', Below W.heap.size W W' → W'.heap[D]? = some (.deferred (some [])) from fun W' hb => (hb.block D hdl).trans HF.out.2.2.1)
            rcases hts : txtL c vs with _ | ⟨t1, _ | ⟨t2, r⟩⟩
            · rw [hts] at c4
              have HTS := Lib.hid hts
              clear hts
              go_wp2_with fail
              refine (Tryz.strings_Join_none A2 cap2 ⟨#[44, 32]⟩ W).mono ?_
              rintro e w6 ⟨rfl, rfl⟩
              go_wp2_with fail
              rw [← HQ0.out]
              refine ⟨by simp, .inl ⟨_, _, rfl, run_takeDeferred (hdf.out _ (Below.refl _ _)), ?_⟩⟩
              refine ⟨.tuple #[.string ⟨#[109, 97, 120, 40, 41]⟩, .int .i64 0], by simp [results, Tryz.results40, go_sem]; rfl, by rw [HTS.out]; rfl, hbf.out _ (Below.refl _ _)⟩
            · obtain ⟨g, rfl, hgl, _, hcs⟩ := HF.out.1.cells (by rw [hts]; simp)
              have hc0 : W.cell? ⟨g, 0, none⟩ = some (.string t1) := hcs 0 t1 (by rw [hts]; rfl)
              rw [hts] at c4
              have HTS := Lib.hid hts
              clear hts hcs
              go_wp2_with fail
              rw [← HQ0.out]
              refine ⟨by simp, .inl ⟨_, _, rfl, run_takeDeferred (hdf.out _ (Below.refl _ _)), ?_⟩⟩
              refine ⟨.tuple #[.string t1, .int .i64 0], by simp [results, Tryz.results40, go_sem], by rw [HTS.out]; rfl, hbf.out _ (Below.refl _ _)⟩
            · obtain ⟨g, rfl, hgl, hcap, hcs⟩ := HF.out.1.cells (by rw [hts]; simp)
              have hjl := join_le (txtL c vs) HF.out.2.2.2.1 HF.out.2.2.2.2
              have hjn := Tryz.strings_Join g 0 cap2 (txtL c vs) ⟨#[44, 32]⟩ W hcs hgl (by have := HF.out.2.2.2.2; omega) hcap (by
                have e : (⟨#[44, 32]⟩ : ByteArray).data.toList = [44, 32] := rfl
                rw [e]
                omega)
              have e2 : (⟨#[44, 32]⟩ : ByteArray).data.toList = [44, 32] := rfl
              rw [e2] at hjn
              have hjs : Hid ((⟨(Lib.join ((txtL c vs).map (·.data.toList)) [44, 32]).toArray⟩ : ByteArray).size ≤ 10000000) := Lib.hid (by show (Lib.join ((txtL c vs).map (·.data.toList)) [44, 32]).toArray.size ≤ _; simpa using hjl)
              have hans : Hid (txtB (txtL c vs) = ⟨#[109, 97, 120, 40]⟩ ++ ⟨(Lib.join ((txtL c vs).map (·.data.toList)) [44, 32]).toArray⟩ ++ ⟨#[41]⟩) := Lib.hid (by rw [hts]; rfl)
              generalize (⟨(Lib.join ((txtL c vs).map (·.data.toList)) [44, 32]).toArray⟩ : ByteArray) = J at *
              rw [hts, List.length_cons, List.length_cons] at c4 hjn
              have HJ := Lib.hid hjn
              have hJs : J.size ≤ 10000000 := hjs.out
              clear hts hcs hjn hjl hcap e2
              have hl : (((r.length + 1 + 1 : Nat) : Int) == 1) = false := by simp; omega
              go_wp2_with fail
              refine HJ.out.mono ?_
              rintro e w6 ⟨rfl, hb6⟩
              have HB6 := Lib.hid hb6
              clear hb6
              go_wp2_with fail
              rw [← HQ0.out]
              refine ⟨by simp, .inl ⟨_, _, rfl, run_takeDeferred (hdf.out _ HB6.out), ?_⟩⟩
              refine ⟨.tuple #[.string (⟨#[109, 97, 120, 40]⟩ ++ J ++ ⟨#[41]⟩), .int .i64 0], by simp [results, Tryz.results40, go_sem], by rw [hans.out], hbf.out _ HB6.out⟩
          case stop =>
            rintro D c pre W _ _ h _
            exact h.elim
end Go.Proofs.YtipnabbdhmapkaaGreatDoor
