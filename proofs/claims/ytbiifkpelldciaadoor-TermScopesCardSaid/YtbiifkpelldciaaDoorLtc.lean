/- The law TermScopes. -/
import Derived.Test.YtbiifkpelldciaaDoorLtp
import Derived.Test.YtbiifkpelldciaaDoorSco
namespace Go.Proofs.YtbiifkpelldciaaDoor
open Go.RowKit

/-- Four cells of a block. -/
structure C4 (b : Nat) (v0 v1 v2 v3 : Value) (wx : World) : Prop where
  c0 : wx.cell? ⟨b, 0, none⟩ = some v0
  c1 : wx.cell? ⟨b, 1, none⟩ = some v1
  c2 : wx.cell? ⟨b, 2, none⟩ = some v2
  c3 : wx.cell? ⟨b, 3, none⟩ = some v3
theorem C4.next {b : Nat} {v0 v1 v2 v3 : Value} {wx wy : World} (h : C4 b v0 v1 v2 v3 wx) (hb : Below wx.heap.size wx wy) : C4 b v0 v1 v2 v3 wy := by
  have hk : ∀ (p : Addr) (v : Value), wx.cell? p = some v → wy.cell? p = some v := fun p v hv => (hb.cell (World.block_lt_of_cell? wx p hv)).trans hv
  exact ⟨hk _ _ h.c0, hk _ _ h.c1, hk _ _ h.c2, hk _ _ h.c3⟩
theorem C4.new (wx : World) (v0 v1 v2 v3 : Value) (t : TypeId) : C4 wx.heap.size v0 v1 v2 v3 (wx.alloc (.cells #[v0, v1, v2, v3] t)) := by
  have hn := World.alloc_heap_new wx (.cells #[v0, v1, v2, v3] t)
  exact ⟨cell_of_row _ _ 0 _ _ _ hn, cell_of_row _ _ 1 _ _ _ hn, cell_of_row _ _ 2 _ _ _ hn, cell_of_row _ _ 3 _ _ _ hn⟩
theorem asc_next {S : List Int} (h : AscI S) {j : Nat} (hj : j < S.length) (h0 : ∀ x ∈ S, 0 ≤ x) : lastS (S.take j) < S[j] := by
  rcases lastS_spec (l := S.take j) (List.Pairwise.sublist (List.take_sublist _ _) h) with ⟨_, e⟩ | ⟨e, _⟩
  · have := h0 _ (List.getElem_mem hj); omega
  · have h2 : AscI (S.take j ++ S.drop j) := by rw [List.take_append_drop]; exact h
    exact (List.pairwise_append.1 h2).2.2 _ e _ (List.mem_of_getElem? (i := 0) (by rw [List.getElem?_drop]; simp [List.getElem?_eq_getElem hj]))

set_option maxRecDepth 100000 in
set_option maxHeartbeats 8000000 in
theorem termScopes_any (t : Tm) (v : Value) (a0 a1 a2 a3 b0 b1 b2 b3 : Int) (r0 : 0 ≤ b0 ∧ b0 ≤ 255) (r1 : 0 ≤ b1 ∧ b1 ≤ 255) (r2 : 0 ≤ b2 ∧ b2 ≤ 255) (r3 : 0 ≤ b3 ∧ b3 ≤ 255) (w : World) (hv : TmV w w.heap.size t v) (hwf : WfT t) (hsh : Shapes w) (hw : 0 < w.heap.size) :
    Calls Tryd.prog 9 #[v, .agg #[.int .i64 a0, .int .i64 a1, .int .i64 a2, .int .i64 a3], .agg #[.int .u8 b0, .int .u8 b1, .int .u8 b2, .int .u8 b3]] w fun e w' => e = .returned (.bool true) ∧ Below w.heap.size w w' := by
  have hv0 := hv
  obtain ⟨k, i, nm, AL, nl, cl, AK, ck, rfl, _, _⟩ := hv.open_
  have T00 := ScT.start (a0 := a0) (a1 := a1) (a2 := a2) (a3 := a3) hv0 hsh (Nat.le_refl _) hw
  have HWF := Lib.hid hwf
  have hbA := (Below.refl ((w.alloc (.cells #[.int .i64 k, .int .i64 i, .string nm, .slice AL nl cl, .slice AK t.kids.length ck] 27)).alloc (.cells #[.int .i64 a0, .int .i64 a1, .int .i64 a2, .int .i64 a3] 29)).heap.size _).alloc (Nat.le_refl _) (.cells #[.int .u8 b0, .int .u8 b1, .int .u8 b2, .int .u8 b3] 45)
  have T0 := Lib.hid (T00.next hbA)
  have hby := C4.new ((w.alloc (.cells #[.int .i64 k, .int .i64 i, .string nm, .slice AL nl cl, .slice AK t.kids.length ck] 27)).alloc (.cells #[.int .i64 a0, .int .i64 a1, .int .i64 a2, .int .i64 a3] 29)) (.int .u8 b0) (.int .u8 b1) (.int .u8 b2) (.int .u8 b3) 45
  simp only [World.size_alloc] at hby
  clear hsh hw hv0 hv hwf T00 hbA
  have HBY := Lib.hid hby
  clear hby
  obtain ⟨x0, x1, x2, x3, x4, _, _, _, _, _, _, _, _, _, _⟩ := T0.out
  go_enter Tryd.func9, Tryd.ntmps9
  go_wp2_with fail
  have hl := listed_of T0.out.tm T0.out.size
  simp only [World.size_alloc] at hl
  refine (few_any (szL [t] + 1) [t] (some ⟨w.heap.size + 1 + 1 + 1, 0, none⟩) 1 (w.heap.size + 1 + 1 + 1 + 1) _ (by omega) (by simp) hl (by simp)).mono ?_
  rintro e w2 ⟨b, rfl, hb, hf⟩
  have T1 := Lib.hid ((T0.out.next ((Below.refl _ _).alloc (Nat.le_refl _) _)).next hb)
  replace HBY := Lib.hid ((HBY.out.next ((Below.refl _ _).alloc (Nat.le_refl _) _)).next hb)
  clear x0 x1 x2 x3 x4 hb hl T0
  cases b with
  | false =>
    go_wp2_with fail
    refine (awake_any _ T1.out.sh (by have := T1.out.size; have := T1.out.pos; omega)).mono ?_
    rintro e w3 ⟨rfl, hb3⟩
    have T2 := Lib.hid (T1.out.next hb3)
    clear hb3
    go_wp2_with fail
    go_ret
    exact ⟨rfl, T2.out.below⟩
  | true =>
    have hsz := (hf rfl).sz
    rw [szL, szL, Nat.add_zero] at hsz
    clear hf
    have hpos := T1.out.pos
    obtain ⟨x0, x1, x2, x3, x4, s0, s1, s2, s3, _, _, _, _, _, _⟩ := T1.out
    by_cases hbig : a0 ≤ 1000 ∧ a1 ≤ 1000 ∧ a2 ≤ 1000 ∧ a3 ≤ 1000
    case neg =>
      rcases (show 1000 < a0 ∨ (a0 ≤ 1000 ∧ 1000 < a1) ∨ (a0 ≤ 1000 ∧ a1 ≤ 1000 ∧ 1000 < a2) ∨ (a0 ≤ 1000 ∧ a1 ≤ 1000 ∧ a2 ≤ 1000 ∧ 1000 < a3) by omega) with g | g | g | g
      all_goals
        first
        | (have d0 : decide (1000 < a0) = true := decide_eq_true (by omega))
        | (have d0 : decide (1000 < a0) = false := decide_eq_false (by omega)
           have d1 : decide (1000 < a1) = true := decide_eq_true (by omega))
        | (have d0 : decide (1000 < a0) = false := decide_eq_false (by omega)
           have d1 : decide (1000 < a1) = false := decide_eq_false (by omega)
           have d2 : decide (1000 < a2) = true := decide_eq_true (by omega))
        | (have d0 : decide (1000 < a0) = false := decide_eq_false (by omega)
           have d1 : decide (1000 < a1) = false := decide_eq_false (by omega)
           have d2 : decide (1000 < a2) = false := decide_eq_false (by omega)
           have d3 : decide (1000 < a3) = true := decide_eq_true (by omega))
        clear g hbig
        go_wp2_with fail
        refine (awake_any _ T1.out.sh (by have := T1.out.size; omega)).mono ?_
        rintro e w3 ⟨rfl, hb3⟩
        have T2 := Lib.hid (T1.out.next hb3)
        clear hb3
        go_wp2_with fail
        go_ret
        exact ⟨rfl, T2.out.below⟩
    case pos =>
    obtain ⟨g0, g1, g2, g3⟩ := hbig
    have d0 : decide (1000 < a0) = false := decide_eq_false (by omega)
    have d1 : decide (1000 < a1) = false := decide_eq_false (by omega)
    have d2 : decide (1000 < a2) = false := decide_eq_false (by omega)
    have d3 : decide (1000 < a3) = false := decide_eq_false (by omega)
    go_wp2_with fail
    refine (lcheck_any t _ a0 a1 a2 a3 w.heap.size _ T1.out.tm T1.out.size T1.out.pos T1.out.sh (by omega)).mono ?_
    rintro e w3 ⟨rfl, hb3⟩
    have T2 := Lib.hid (T1.out.next hb3)
    replace HBY := Lib.hid (HBY.out.next hb3)
    clear hb3 T1 x0 x1 x2 x3 x4 s0 s1 s2 s3 d0 d1 d2 d3
    obtain ⟨x0, x1, x2, x3, x4, s0, s1, s2, s3, _, _, _, _, _, _⟩ := T2.out
    by_cases hck : chkC a0 a1 a2 a3 t = 0
    case neg =>
      have hcn : (chkC a0 a1 a2 a3 t == 0) = false := by simpa using hck
      go_wp2_with fail
      refine (awake_any _ T2.out.sh (by have := T2.out.size; have := T2.out.pos; omega)).mono ?_
      rintro e w4 ⟨rfl, hb3⟩
      have T3 := Lib.hid (T2.out.next hb3)
      clear hb3
      go_wp2_with fail
      go_ret
      exact ⟨rfl, T3.out.below⟩
    case pos =>
    rw [hck]
    have HCK := Lib.hid hck
    clear hck
    obtain ⟨y0, y1, y2, y3⟩ := HBY.out
    go_upto_region 4 with fail
    have hb4 := (Below.refl w3.heap.size w3).alloc (Nat.le_refl _) (.cells #[.int .i64 (max a0 0 + b0), .int .i64 (max a1 0 + b1), .int .i64 (max a2 0 + b2), .int .i64 (max a3 0 + b3)] 29)
    have T3 := Lib.hid (T2.out.next hb4)
    have HG := Lib.hid (C4.new w3 (.int .i64 (max a0 0 + b0)) (.int .i64 (max a1 0 + b1)) (.int .i64 (max a2 0 + b2)) (.int .i64 (max a3 0 + b3)) 29)
    obtain ⟨w4, hw4⟩ : ∃ w4, w4 = w3.alloc (.cells #[.int .i64 (max a0 0 + b0), .int .i64 (max a1 0 + b1), .int .i64 (max a2 0 + b2), .int .i64 (max a3 0 + b3)] 29) := ⟨_, rfl⟩
    rw [← hw4] at T3 HG ⊢
    clear hb4 hw4 x0 x1 x2 x3 x4 s0 s1 s2 s3 y0 y1 y2 y3 T2 HBY
    have HGR := Lib.hid (chkC_greater (v' := max a0 0 + b0) (p' := max a1 0 + b1) (m' := max a2 0 + b2) (l' := max a3 0 + b3) HCK.out (by omega) (by omega) (by omega) (by omega))
    have HLE := Lib.hid (chkC_least HWF.out HCK.out)
    have HUN := Lib.hid (fun h => chkC_under HWF.out HCK.out h)
    have HFI := Lib.hid (fun x (hx : x ∈ freeT t) => free_in HWF.out HCK.out hx)
    have hfl := freeS_length (preT t 0 1)
    rw [preT_length] at hfl
    have hfl' : (freeT t).length ≤ 200 := by unfold freeT; omega
    have HAS : Hid (AscI (freeT t)) := Lib.hid (freeS_asc _)
    have HLO := Lib.hid (last_out (t := t))
    clear hfl HCK HWF r0 r1 r2 r3
    obtain ⟨x0, x1, x2, x3, x4, _, _, _, _, _, _, _, _, _, _⟩ := T3.out
    go_wp2_with fail
    refine (tfree_any t _ w.heap.size _ T3.out.tm T3.out.size hpos T3.out.sh.s4 (by omega)).mono ?_
    rintro e w5 ⟨v5, rfl, hrow, hb5⟩
    obtain ⟨A1, c1, rfl, hia⟩ := ia_of hrow (by omega)
    have HIA := Lib.hid hia
    have T4 := Lib.hid (T3.out.next hb5)
    replace HG := Lib.hid (HG.out.next hb5)
    clear hb5 hrow hia x0 x1 x2 x3 x4 T3
    obtain ⟨S, hS⟩ : ∃ S, freeT t = S := ⟨_, rfl⟩
    have HS := Lib.hid hS
    rw [hS] at HIA hfl' HLE HUN HFI HAS HLO
    rw [hS]
    clear hS
    have hlb : -1 ≤ lastS S ∧ lastS S ≤ 1000 := by
      rcases lastS_spec HAS.out with ⟨_, e⟩ | ⟨e, _⟩
      · omega
      · have := HFI.out _ e; omega
    go_wp2_with fail
    go_loopw [8, 9, 76] (fun s8 s9 s76 wx => ∃ j : Nat, j ≤ S.length ∧ s8 = .int .i64 (lastS (S.take j) + 1) ∧ s9 = .int .i64 (lastS (S.take j)) ∧ s76 = .int .i64 (j : Int) ∧ ScT w w.heap.size t (.int .i64 k) (.int .i64 i) (.string nm) (.slice AL nl cl) (.slice AK t.kids.length ck) a0 a1 a2 a3 wx ∧ C4 w3.heap.size (.int .i64 (max a0 0 + b0)) (.int .i64 (max a1 0 + b1)) (.int .i64 (max a2 0 + b2)) (.int .i64 (max a3 0 + b3)) wx ∧ IA wx wx.heap.size A1 S) (fun _ _ s76 _ => S.length - (intOf s76).toNat)
    case atStart => exact ⟨0, Nat.zero_le _, rfl, rfl, rfl, T4.out, HG.out, HIA.out⟩
    case round =>
      obtain ⟨j, hj, rfl, rfl, rfl, hsc, hg, hia⟩ := hrel
      clear T4 HG HIA
      have T4 := Lib.hid hsc
      have HG := Lib.hid hg
      have HIA := Lib.hid hia
      clear hsc hg hia
      obtain ⟨x0, x1, x2, x3, x4, s0, s1, s2, s3, _, _, _, _, _, _⟩ := T4.out
      by_cases hjl : j < S.length
      · obtain ⟨b, off, rfl, hbB, hc⟩ := HIA.out.at_ hjl
        have hg : S.getD j 0 = S[j] := by rw [List.getD_eq_getElem?_getD, List.getElem?_eq_getElem hjl]; rfl
        have ht : S.take (j + 1) = S.take j ++ [S[j]] := by rw [List.take_succ_eq_append_getElem hjl]
        rw [hg] at hc
        have HM : Hid (decide (S[j] ∈ S) = true) := Lib.hid (decide_eq_true (List.getElem_mem hjl))
        have hy := HFI.out _ (List.getElem_mem hjl)
        have hlt := asc_next HAS.out hjl (fun x hx => (HFI.out x hx).1)
        have HT : Hid (lastS (S.take (j + 1)) = S[j]) := Lib.hid (by rw [ht, lastS_snoc])
        clear hg ht
        generalize S[j] = y at *
        have dle : decide (y ≤ lastS (S.take j)) = false := decide_eq_false (by omega)
        have dge : decide (a0 ≤ y) = false := decide_eq_false (by omega)
        clear hlt
        go_wp2_with fail
        refine (occurs_any t _ y w.heap.size _ T4.out.tm T4.out.size hpos T4.out.sh.s4 (by omega)).mono ?_
        rintro e w6 ⟨rfl, hb6⟩
        rw [HS.out, HM.out]
        replace T4 := Lib.hid (T4.out.next hb6)
        replace HG := Lib.hid (HG.out.next hb6)
        replace HIA := Lib.hid (HIA.out.next0 hb6)
        clear hb6 x0 x1 x2 x3 x4 s0 s1 s2 s3 hc dle dge
        go_wp2_with fail
        go_roundw
        case rel => exact ⟨j + 1, hjl, by rw [HT.out], by rw [HT.out], by go_num, T4.out, HG.out, HIA.out⟩
        case measure => simp [intOf]; omega
      · have he : S.take j = S := List.take_of_length_le (by omega)
        have hji : decide ((j : Int) < (S.length : Int)) = false := by rw [decide_eq_false_iff_not]; omega
        rw [he]
        obtain ⟨nd, hnd⟩ : ∃ nd, nd = lastS S + 1 := ⟨_, rfl⟩
        rw [← hnd] at HLE HUN HLO ⊢
        have hnb : 0 ≤ nd ∧ nd ≤ 1001 := by omega
        clear he hnd hlb
        have hb5 := (Below.refl wr.heap.size wr).alloc (Nat.le_refl _) (.cells #[.int .i64 nd, .int .i64 a1, .int .i64 a2, .int .i64 a3] 29)
        have T5 := Lib.hid (T4.out.next hb5)
        have HG5 := Lib.hid (HG.out.next hb5)
        have HL := Lib.hid (C4.new wr (.int .i64 nd) (.int .i64 a1) (.int .i64 a2) (.int .i64 a3) 29)
        have HF : Hid ((wr.alloc (.cells #[.int .i64 nd, .int .i64 a1, .int .i64 a2, .int .i64 a3] 29)).frozen? ⟨wr.heap.size, 0, none⟩ = false) := Lib.hid (by go_simp)
        have hwr := T4.out.sz
        have hz1 : wr.heap.size < (wr.alloc (.cells #[.int .i64 nd, .int .i64 a1, .int .i64 a2, .int .i64 a3] 29)).heap.size := by simp
        obtain ⟨w6, hw6⟩ : ∃ w6, w6 = wr.alloc (.cells #[.int .i64 nd, .int .i64 a1, .int .i64 a2, .int .i64 a3] 29) := ⟨_, rfl⟩
        rw [← hw6] at T5 HG5 HL HF hz1
        have HW6 := Lib.hid hw6
        clear hb5 hw6 T4 HG HIA
        go_upto_region 16 with fail
        rw [← HW6.out]
        clear HW6 x0 x1 x2 x3 x4 s0 s1 s2 s3
        obtain ⟨x0, x1, x2, x3, x4, _, _, _, _, _, _, _, _, _, _⟩ := T5.out
        obtain ⟨y0, y1, y2, y3⟩ := HG5.out
        have hws : w.heap.size + 1 < wr.heap.size := by omega
        go_wp2_with fail
        refine (lcheck_any t _ _ _ _ _ w.heap.size _ T5.out.tm T5.out.size hpos T5.out.sh (by omega)).mono ?_
        rintro e w7 ⟨rfl, hb7⟩
        rw [HGR.out]
        replace T5 := Lib.hid (T5.out.next hb7)
        replace HL := Lib.hid (HL.out.next hb7)
        replace HF := Lib.hid ((World.frozen?_of_block (hb7.block wr.heap.size hz1)).trans HF.out)
        replace hz1 := Nat.lt_of_lt_of_le hz1 hb7.size
        clear hb7 x0 x1 x2 x3 x4 y0 y1 y2 y3 HG5 HGR
        obtain ⟨x0, x1, x2, x3, x4, _, _, _, _, _, _, _, _, _, _⟩ := T5.out
        obtain ⟨y0, y1, y2, y3⟩ := HL.out
        go_wp2_with fail
        refine (lcheck_any t _ _ _ _ _ w.heap.size _ T5.out.tm T5.out.size hpos T5.out.sh (by omega)).mono ?_
        rintro e w8 ⟨rfl, hb7⟩
        rw [HLE.out]
        replace T5 := Lib.hid (T5.out.next hb7)
        replace HL := Lib.hid (HL.out.next hb7)
        replace HF := Lib.hid ((World.frozen?_of_block (hb7.block wr.heap.size hz1)).trans HF.out)
        replace hz1 := Nat.lt_of_lt_of_le hz1 hb7.size
        clear hb7 x0 x1 x2 x3 x4 y0 y1 y2 y3 HLE
        obtain ⟨x0, x1, x2, x3, x4, _, _, _, _, _, _, _, _, _, _⟩ := T5.out
        go_wp2_with fail
        refine (occurs_any t _ nd w.heap.size _ T5.out.tm T5.out.size hpos T5.out.sh.s4 (by omega)).mono ?_
        rintro e w9 ⟨rfl, hb7⟩
        rw [HS.out, decide_eq_false HLO.out]
        replace T5 := Lib.hid (T5.out.next hb7)
        replace HL := Lib.hid (HL.out.next hb7)
        replace HF := Lib.hid ((World.frozen?_of_block (hb7.block wr.heap.size hz1)).trans HF.out)
        replace hz1 := Nat.lt_of_lt_of_le hz1 hb7.size
        clear hb7 x0 x1 x2 x3 x4 HLO
        have hbs : ∀ x, Below wr.heap.size w9 (w9.setCell ⟨wr.heap.size, 0, none⟩ x) := fun x => (Below.refl _ _).grown (grownBy_setCell' _ _ _) (by omega) (fun r e => by cases e; omega)
        have hwB : w.heap.size ≤ wr.heap.size := by omega
        have T6 := Lib.hid (fun x => T5.out.nextB (hbs x) hws hwB)
        obtain ⟨x0, x1, x2, x3, x4, _, _, _, _, _, _, _, _, _, _⟩ := T5.out
        obtain ⟨y0, y1, y2, y3⟩ := HL.out
        have hfr := HF.out
        by_cases hn : nd = 0
        · subst hn
          clear HUN hbs
          go_wp2_with fail
          refine (awake_any _ (T6.out _).sh (by have := (T6.out (.int .i64 (-1))).size; simp; omega)).mono ?_
          rintro e w10 ⟨rfl, hb7⟩
          have T7 := Lib.hid ((T6.out _).next hb7)
          clear hb7 T6
          go_wp2_with fail
          go_ret
          exact ⟨rfl, T7.out.below⟩
        · have HU := Lib.hid (HUN.out hn)
          have hne : (nd == 0) = false := by simpa using hn
          have ho : ∀ (j : Nat) (u : Value), j ≠ 0 → w9.cell? ⟨wr.heap.size, j, none⟩ = some u → (w9.setCell ⟨wr.heap.size, 0, none⟩ (.int .i64 (nd - 1))).cell? ⟨wr.heap.size, j, none⟩ = some u := fun j u hj hv => (World.cell?_setCell_other _ _ _ _ (by intro e; injection e with _ e _; exact hj e.symm)).trans hv
          have y0' := World.cell?_setCell_same w9 ⟨wr.heap.size, 0, none⟩ (.int .i64 (nd - 1)) y0
          have y1' := ho 1 _ (by omega) y1
          have y2' := ho 2 _ (by omega) y2
          have y3' := ho 3 _ (by omega) y3
          obtain ⟨x0', x1', x2', x3', x4', _, _, _, _, _, _, _, _, _, _⟩ := T6.out (.int .i64 (nd - 1))
          have hnd1 : 0 < nd := by omega
          clear HUN hbs ho hn
          go_wp2_with fail
          refine (lcheck_any t _ _ _ _ _ w.heap.size _ (T6.out _).tm (T6.out _).size hpos (T6.out _).sh (by omega)).mono ?_
          rintro e w10 ⟨rfl, hb7⟩
          rw [HU.out]
          have T7 := Lib.hid ((T6.out _).next hb7)
          clear hb7 T6 x0 x1 x2 x3 x4 y0 y1 y2 y3 x0' x1' x2' x3' x4' y0' y1' y2' y3'
          go_wp2_with fail
          refine (awake_any _ T7.out.sh (by have := T7.out.size; omega)).mono ?_
          rintro e w11 ⟨rfl, hb7⟩
          have T8 := Lib.hid (T7.out.next hb7)
          clear hb7 T7
          go_wp2_with fail
          go_ret
          exact ⟨rfl, T8.out.below⟩
end Go.Proofs.YtbiifkpelldciaaDoor
