/- allValid, replace, Subst and Assign of the program. -/
import Derived.Test.YtipnabbdhmapkaaGreatDoorRep
import Derived.Deep.RegionHeld3
namespace Go.Proofs.YtipnabbdhmapkaaGreatDoor
open Go.RowKit

/-! allValid, replace, Subst and Assign of the program. -/

set_option maxRecDepth 100000 in
set_option maxHeartbeats 1000000 in
theorem allValid_any (P : Option Addr) (capp : Nat) (ls : List LvD) (B : Nat) (w : World) (hl : LL w B P ls) (hB : B ≤ w.heap.size) :
    Calls Tryz.prog 58 #[.slice P ls.length capp] w fun e w' => e = .returned (.bool (ls.all LvD.ok)) ∧ Below w.heap.size w w' := by
  have hlen := hl.len
  go_enter Tryz.func58, Tryz.ntmps58
  go_wp2_with fail
  go_loopw [7] (fun i wr => ∃ k : Nat, k ≤ ls.length ∧ i = .int .i64 k ∧ Hid ((ls.take k).all LvD.ok = true) ∧ Below w.heap.size w wr) (fun i _ => ls.length - (intOf i).toNat)
  case atStart => exact ⟨0, Nat.zero_le _, rfl, Lib.hid rfl, Below.refl _ _⟩
  case round =>
    obtain ⟨k, hk, rfl, hok, hbw⟩ := hrel
    have hszr := hbw.size
    by_cases hlk : k < ls.length
    · obtain ⟨l, hkl⟩ : ∃ l, ls[k]? = some l := ⟨_, List.getElem?_eq_getElem hlk⟩
      have hlw := hl.below hbw hB
      obtain ⟨b, off, rfl, hb, hc0, hc1⟩ := hlw.at_ hkl
      have HV := Lib.hid (hlw.2 l (List.mem_of_getElem? hkl))
      have hbl : b < wr.heap.size := by omega
      have HT := Lib.hid (show (ls.take (k + 1)).all LvD.ok = ((ls.take k).all LvD.ok && l.ok) by rw [List.take_add_one, hkl, Option.toList_some, List.all_append]; simp)
      have HM := Lib.hid (List.mem_of_getElem? hkl)
      clear hkl hlw
      go_wp2_with fail
      refine (valid_any l.c l.A l.cap l.vs B _ (HV.out.alloc (by omega) _) (by simp; omega)).mono ?_
      rintro e w2 ⟨rfl, hb2⟩
      have HB := Lib.hid ((hbw.alloc hszr _).trans (hb2.mono (by simp; omega)))
      clear hb2
      have HO := Lib.hid (show l.ok = vldB l.c l.vs from rfl)
      cases hvl : vldB l.c l.vs with
      | false =>
        have HE := Lib.hid (show ls.all LvD.ok = false by
          rw [List.all_eq_false]
          exact ⟨l, HM.out, by rw [HO.out, hvl]; decide⟩)
        clear hvl
        go_wp2_with fail
        go_ret
        exact ⟨ret_bool HE.out.symm, HB.out⟩
      | true =>
        have HE := Lib.hid (show (ls.take (k + 1)).all LvD.ok = true by rw [HT.out, hok.out, HO.out, hvl]; rfl)
        clear hvl
        go_wp2_with fail
        go_roundw
        case rel => exact ⟨k + 1, hlk, by go_num, HE, HB.out⟩
        case measure => simp [intOf]; omega
    · obtain rfl : k = ls.length := by omega
      rw [List.take_length] at hok
      go_wp2_with fail
      go_ret
      exact ⟨ret_bool hok.out.symm, hbw⟩

/-- No list of pairs of numbers lies where the collector lies. -/
theorem VA.ne_col {w : World} {B : Nat} {A : Option Addr} {vs : List (Int × Int)} (h : VA w B A vs) {cb mb n : Nat} {M : List (Int × Int)} {c : Int} (hc : Col w cb mb n M c) : ∀ b off, 0 < vs.length → A = some ⟨b, off, none⟩ → b ≠ cb := by
  intro b off hn e he
  subst he
  obtain ⟨b', off', e', _, hcell⟩ := h.2 hn
  rw [e] at e'
  cases e'
  rcases hx : vs[0]? with _ | ⟨x, y⟩
  · rw [List.getElem?_eq_none_iff] at hx; omega
  · obtain ⟨h0, h1⟩ := hcell 0 x y hx
    have hcb := hc.col
    simp only [World.cell?, hcb] at h0 h1
    rcases off with _ | _ | off
    · simp at h0
    · simp at h1
    · simp at h0

set_option maxRecDepth 100000 in
set_option maxHeartbeats 4000000 in
theorem replaceS_any (c : Int) (A : Option Addr) (cap : Nat) (vs : List (Int × Int)) (K : Nat) (val : Int → Option LvD) (B : Nat) (w : World) (hv : VA w B A vs) (hB : B ≤ w.heap.size) (hvd : vldB c vs = true)
    (hval : ∀ W, Below w.heap.size w W → ∀ p ∈ vs, Calls Tryz.prog 60 #[.int .i64 p.1, .pointer (some ⟨K, 0, none⟩)] W (ValPost (val p.1) W))
    (hvl : ∀ p ∈ vs, ∀ l, val p.1 = some l → VA w B l.A l.vs ∧ l.vs.length ≤ 100) (hl : vs.length ≤ 100) :
    Calls Tryz.prog 59 #[.agg #[.int .i64 c, .slice A vs.length cap], .func (.func 60) #[] #[.pointer (some ⟨K, 0, none⟩)]] w
      (GivesLv (finR (repR val vs c [])).1.1 (finR (repR val vs c [])).1.2 (finR (repR val vs c [])).2 w) := by
  go_enter Tryz.func59, Tryz.ntmps59
  have hq := Lib.hid (show ((w.alloc (.cells #[.int .i64 c, .slice A vs.length cap] 24)).alloc (.cells #[.int .i64 0, .slice none 0 0] 24)).heap[w.heap.size + 1]? = some (.cells #[.int .i64 0, .slice none 0 0] 24 (0, 0)) from PSt.alloc_last _ _ _ (by simp))
  have hb1 := Lib.hid (show Below w.heap.size w ((w.alloc (.cells #[.int .i64 c, .slice A vs.length cap] 24)).alloc (.cells #[.int .i64 0, .slice none 0 0] 24)) from ((Below.refl _ _).alloc (Nat.le_refl _) _).alloc (by simp) _)
  have hx0 := Lib.hid (show ((w.alloc (.cells #[.int .i64 c, .slice A vs.length cap] 24)).alloc (.cells #[.int .i64 0, .slice none 0 0] 24)).cell? ⟨w.heap.size, 0, none⟩ = some (.int .i64 c) by go_simp)
  have hx1 := Lib.hid (show ((w.alloc (.cells #[.int .i64 c, .slice A vs.length cap] 24)).alloc (.cells #[.int .i64 0, .slice none 0 0] 24)).cell? ⟨w.heap.size, 1, none⟩ = some (.slice A vs.length cap) by go_simp)
  go_wp2_with fail
  refine (newCollector_any _).mono ?_
  rintro e w4 ⟨mb, rfl, hm4, hb4, hmb⟩
  have hs4 := hb4.size
  simp only [World.size_alloc] at hs4 hmb
  have l0 := (hb4.cell (p := ⟨w.heap.size, 0, none⟩) (by simp; omega)).trans hx0.out
  have l1 := (hb4.cell (p := ⟨w.heap.size, 1, none⟩) (by simp; omega)).trans hx1.out
  have hqq := (hb4.block (w.heap.size + 1) (by simp)).trans hq.out
  have hbw4 := hb1.out.trans (hb4.mono (by simp; omega))
  have HC4 := Lib.hid (And.intro hm4 (And.intro hqq hbw4))
  clear hm4 hb4 hqq hbw4 hb1 hq hx0 hx1
  have hlt0 : w.heap.size < w4.heap.size := by omega
  have hC0 := Lib.hid (show Col (w4.alloc (.cells #[.map (some mb), .int .i64 c] 102)) w4.heap.size mb 0 [] c from ⟨PSt.alloc_last _ _ _ rfl, World.ownsMap.alloc HC4.out.1 _⟩)
  have hB0 := Lib.hid (show Below (w.heap.size + 1 + 1) w4 (w4.alloc (.cells #[.map (some mb), .int .i64 c] 102)) from (Below.refl _ _).alloc (by omega) _)
  have hres : Hid (∀ W, Below (w.heap.size + 1 + 1) w4 W → (W.cell? ⟨w.heap.size + 1, 0, none⟩ = some (.int .i64 0) ∧ W.cell? ⟨w.heap.size + 1, 1, none⟩ = some (.slice none 0 0) ∧ (∀ o, W.frozen? ⟨w.heap.size + 1, o, none⟩ = false)) ∧ Below w.heap.size w W) := Lib.hid (fun W h => by
    have e := (h.block (w.heap.size + 1) (by omega)).trans HC4.out.2.1
    exact ⟨⟨by simp [World.cell?, e], by simp [World.cell?, e], fun o => by simp [World.frozen?, e]⟩, HC4.out.2.2.trans (h.mono (by omega))⟩)
  have HV := Lib.hid hv
  have HVL := Lib.hid hvl
  have HVAL := Lib.hid hval
  have HD := Lib.hid (vld_in hvd)
  clear hv hvl hval hvd
  go_wp2_with fail
  generalize w4.alloc (.cells #[.map (some mb), .int .i64 c] 102) = W0 at *
  go_loopw [20] (fun i wr => ∃ (k n : Nat) (M : List (Int × Int)) (C : Int), k ≤ vs.length ∧ i = .int .i64 k ∧ n ≤ k * 101 ∧ Hid (repR val (vs.drop k) C M = repR val vs c []) ∧ Hid (MOk M n) ∧ Col wr w4.heap.size mb n M C ∧ Below (w.heap.size + 1 + 1) w4 wr) (fun i _ => vs.length - (intOf i).toNat)
  case atStart => exact ⟨0, 0, [], c, Nat.zero_le _, rfl, Nat.zero_le _, Lib.hid rfl, Lib.hid MOk.nil, hC0.out, hB0.out⟩
  case round =>
    obtain ⟨k, n, M, C, hk, rfl, hn, hE, hMO, hcr, hbr⟩ := hrel
    have hcl := hcr.lt
    have hml := hcr.mlt
    have HR := Lib.hid (And.intro hcr hbr)
    obtain ⟨⟨r0, r1, rf⟩, hbw⟩ := hres.out _ hbr
    have hsr := hbr.size
    have HBW := Lib.hid hbw
    by_cases hlk : k < vs.length
    · obtain ⟨b, off, x, y, rfl, hb, hg, hc0, hc1, hd0, hd1⟩ := (HV.out.below hbw hB).ata (by have := hbw.size; omega) hlk
      have hmem : (x, y) ∈ vs := List.mem_of_getElem? hg
      have hdr := drop_at hg
      have hxy := HD.out (x, y) hmem
      have hbl : b < wr.heap.size := by have := hbw.size; omega
      have HG := Lib.hid (And.intro hmem hdr)
      have hbW := HBW.out.alloc (by have := hbw.size; omega) (.cells #[.int .i64 x, .int .i64 y] 69)
      have hcall := Lib.hid (HVAL.out _ hbW (x, y) hmem)
      have hvls := Lib.hid (HVL.out (x, y) hmem)
      clear hmem hdr hg hcr hbr hbw hbW
      obtain ⟨⟨hx1, hx2⟩, hy1, hy2⟩ := hxy
      rcases hvx : val x with _ | l
      · have hcall2 : Hid (Calls Tryz.prog 60 #[.int .i64 x, .pointer (some ⟨K, 0, none⟩)] (wr.alloc (.cells #[.int .i64 x, .int .i64 y] 69)) fun e w' => e = .returned (.tuple #[.agg #[.int .i64 0, .slice none 0 0], .bool false]) ∧ Below (wr.alloc (.cells #[.int .i64 x, .int .i64 y] 69)).heap.size (wr.alloc (.cells #[.int .i64 x, .int .i64 y] 69)) w') := Lib.hid (by have h := hcall.out; simp only [hvx] at h; exact h)
        have HE := Lib.hid (show repR val (vs.drop (k + 1)) C (raiseL M x y) = repR val vs c [] from by
          rw [← hE.out, HG.out.2]
          simp only [repR, hvx])
        clear hvx hcall hvls
        go_wp2_with fail
        refine hcall2.out.mono ?_
        rintro e w5 ⟨rfl, hb5⟩
        have hs5 := hb5.size
        simp only [World.size_alloc] at hs5
        have v0 : w5.cell? ⟨wr.heap.size, 0, none⟩ = some (.int .i64 x) := (hb5.cell (p := ⟨wr.heap.size, 0, none⟩) (by simp)).trans (by go_simp)
        have v1 : w5.cell? ⟨wr.heap.size, 1, none⟩ = some (.int .i64 y) := (hb5.cell (p := ⟨wr.heap.size, 1, none⟩) (by simp)).trans (by go_simp)
        have hcA := Lib.hid (Col.kept ((Col.kept HR.out.1 (row := none) (grown_alloc (grown_refl _ _) (.cells #[.int .i64 x, .int .i64 y] 69)) (by simp) (by simp)).below hb5 (by simp; omega) (by simp; omega)) (row := none) (grown_alloc (grown_refl _ _) (.cells #[.int .i64 0, .slice none 0 0] 24)) (by simp) (by simp))
        have hBA := Lib.hid (((HR.out.2.alloc (by omega) (.cells #[.int .i64 x, .int .i64 y] 69)).trans (hb5.mono (by simp; omega))).alloc (by omega) (.cells #[.int .i64 0, .slice none 0 0] 24))
        have m0 := hcA.out.c0
        have hvl5 : wr.heap.size < w5.heap.size := by omega
        clear hb5
        go_wp2_with fail
        refine (raise_any mb n M x y _ hcA.out.map (by omega) (WalkArith.wf_i64 (by omega)) (WalkArith.wf_i64 (by omega))).mono ?_
        rintro e w6 ⟨rfl, hm6, hg6⟩
        have HN := Lib.hid (And.intro (hcA.out.raised hm6 hg6) (below_of_grown hBA.out hg6 (by omega) (by simp; omega)))
        clear hm6 hg6
        go_wp2_with fail
        go_roundw
        case rel => exact ⟨k + 1, n + 1, _, C, hlk, by go_num, by omega, HE, Lib.hid (hMO.out.raise ⟨hx1, hx2⟩), HN.out.1, HN.out.2⟩
        case measure => simp [intOf]; omega
      · have hcall2 : Hid (Calls Tryz.prog 60 #[.int .i64 x, .pointer (some ⟨K, 0, none⟩)] (wr.alloc (.cells #[.int .i64 x, .int .i64 y] 69)) fun e w' => e = .returned (.tuple #[.agg #[.int .i64 l.c, .slice l.A l.vs.length l.cap], .bool true]) ∧ Below (wr.alloc (.cells #[.int .i64 x, .int .i64 y] 69)).heap.size (wr.alloc (.cells #[.int .i64 x, .int .i64 y] 69)) w') := Lib.hid (by have h := hcall.out; simp only [hvx] at h; exact h)
        have HL := Lib.hid (hvls.out l hvx)
        have HE : Hid (repR val vs c [] = if plusE l.c l.vs y = 0 then repR val (vs.drop (k + 1)) (max C (plusC l.c l.vs y)) (raiseAll M (plusV l.c l.vs y)) else ((0, []), plusE l.c l.vs y)) := Lib.hid (by
          rw [← hE.out, HG.out.2]
          simp only [repR, hvx])
        have hpp := Lib.hid (plus_parts (c := l.c) (vs := l.vs) y)
        clear hvx hcall hvls
        go_wp2_with fail
        refine hcall2.out.mono ?_
        rintro e w5 ⟨rfl, hb5⟩
        have hs5 := hb5.size
        simp only [World.size_alloc] at hs5
        have v1 : w5.cell? ⟨wr.heap.size, 1, none⟩ = some (.int .i64 y) := (hb5.cell (p := ⟨wr.heap.size, 1, none⟩) (by simp)).trans (by go_simp)
        have hcA := Lib.hid (Col.kept ((Col.kept HR.out.1 (row := none) (grown_alloc (grown_refl _ _) (.cells #[.int .i64 x, .int .i64 y] 69)) (by simp) (by simp)).below hb5 (by simp; omega) (by simp; omega)) (row := none) (grown_alloc (grown_refl _ _) (.cells #[.int .i64 l.c, .slice l.A l.vs.length l.cap] 24)) (by simp) (by simp))
        have hBA := Lib.hid (((HR.out.2.alloc (by omega) (.cells #[.int .i64 x, .int .i64 y] 69)).trans (hb5.mono (by simp; omega))).alloc (by omega) (.cells #[.int .i64 l.c, .slice l.A l.vs.length l.cap] 24))
        have hvl5 : wr.heap.size < w5.heap.size := by omega
        have hvP := HL.out.1.below ((hres.out _ hBA.out).2) hB
        have hsz5 : B ≤ (w5.alloc (.cells #[.int .i64 l.c, .slice l.A l.vs.length l.cap] 24)).heap.size := by have := ((hres.out _ hBA.out).2).size; omega
        clear hb5
        go_wp2_with fail
        refine (plus_any l.c l.A l.cap l.vs y B _ hvP hsz5).mono ?_
        rintro e w6 ⟨A', cap', rfl, hv6, hb6⟩
        have hs6 := hb6.size
        simp only [World.size_alloc] at hs6
        have hB6 := Lib.hid (hBA.out.trans (hb6.mono (by simp; omega)))
        have hc6 := Lib.hid (hcA.out.below hb6 hcA.out.lt hcA.out.mlt)
        have HV6 := Lib.hid hv6
        obtain ⟨⟨q0, q1, qf⟩, _⟩ := hres.out _ hB6.out
        have hwl : w.heap.size + 1 < w6.heap.size := by omega
        clear hb6 hv6 hvP hsz5
        generalize plusC l.c l.vs y = pc at *
        generalize plusV l.c l.vs y = pv at *
        generalize plusE l.c l.vs y = pe at *
        by_cases hz : pe = 0
        · subst hz
          have hE2 := HE.out
          rw [if_pos rfl] at hE2
          have HE2 := Lib.hid hE2
          clear hE2 HE
          have hvA := Lib.hid ((HV6.out.alloc (Nat.le_refl _) (.cells #[.int .i64 pc, .slice A' pv.length cap'] 24)).more (B' := (w6.alloc (.cells #[.int .i64 pc, .slice A' pv.length cap'] 24)).heap.size) (by simp))
          have hcB := Lib.hid (Col.kept hc6.out (row := none) (grown_alloc (grown_refl _ _) (.cells #[.int .i64 pc, .slice A' pv.length cap'] 24)) (by simp) (by simp))
          have hBB := Lib.hid (hB6.out.alloc (by omega) (.cells #[.int .i64 pc, .slice A' pv.length cap'] 24))
          have hplen := Nat.le_trans hpp.out.2.2.2 HL.out.2
          go_wp2_with fail
          refine (add_any w4.heap.size mb n M C pc A' cap' pv _ hcB.out hvA.out (hvA.out.ne_col hcB.out) (by omega) (fun q hq => by
            have := hpp.out.2.2.1 q hq
            exact ⟨WalkArith.wf_i64 (by omega), WalkArith.wf_i64 (by omega)⟩) (w.heap.size + 1 + 1) (by omega) (by omega)).mono ?_
          rintro e w7 ⟨rfl, hc7, hb7⟩
          have HN := Lib.hid (And.intro hc7 (hBB.out.trans hb7))
          clear hc7 hb7
          go_wp2_with fail
          go_roundw
          case rel => exact ⟨k + 1, n + pv.length, _, _, hlk, by go_num, by omega, Lib.hid HE2.out.symm, Lib.hid (hMO.out.raiseAll fun q hq => (hpp.out.2.2.1 q hq).1), HN.out.1, HN.out.2⟩
          case measure => simp [intOf]; omega
        · have hd3 : (pe != 0) = true := by rw [bne_iff_ne]; exact hz
          have hE2 := HE.out
          rw [if_neg hz] at hE2
          have HE2 := Lib.hid hE2
          clear hE2 HE hz
          go_wp2_with fail
          rw [HE2.out]
          exact bodyPost_ret (v := .tuple #[.agg #[.int .i64 0, .slice none 0 0], .int .i64 pe]) (by
            have c0 : (((w6.setCell ⟨w.heap.size + 1, 0, none⟩ (.int .i64 0)).setCell ⟨w.heap.size + 1, 1, none⟩ (.slice none 0 0)).alloc (.cells #[.int .i64 pc, .slice A' pv.length cap'] 24)).cell? ⟨w.heap.size + 1, 0, none⟩ = some (.int .i64 0) := (World.cell?_alloc_lt _ _ _ (by show w.heap.size + 1 < _; simpa [World.setCell] using hwl)).trans (by simp [go_sem, q0])
            have c1 : (((w6.setCell ⟨w.heap.size + 1, 0, none⟩ (.int .i64 0)).setCell ⟨w.heap.size + 1, 1, none⟩ (.slice none 0 0)).alloc (.cells #[.int .i64 pc, .slice A' pv.length cap'] 24)).cell? ⟨w.heap.size + 1, 1, none⟩ = some (.slice none 0 0) := (World.cell?_alloc_lt _ _ _ (by show w.heap.size + 1 < _; simpa [World.setCell] using hwl)).trans (by simp [go_sem, q1])
            simp [results, Tryz.results59, go_sem, c0, c1]) rfl (by
              have hz0 : canonC 0 ([] : List (Int × Int)) = 0 := rfl
              show GivesLv (canonC 0 []) [] pe w _ _
              rw [hz0]
              exact gives_zero (((((hres.out _ hB6.out).2).setCell (by simp) _).setCell (by simp) _).alloc (by simp [World.setCell]; omega) _))
    · have hke : k = vs.length := by omega
      subst hke
      have hE2 := hE.out
      rw [List.drop_eq_nil_of_le (Nat.le_refl _)] at hE2
      have HE2 := Lib.hid (show repR val vs c [] = ((C, M), 0) from hE2.symm)
      clear hE2 hE hcr hbr hbw
      have hlm := hMO.out.len
      go_wp2_with fail
      refine (clevel_any w4.heap.size mb n M C wr HR.out.1 hMO.out.asc (by omega) (fun q hq => by
        have := hMO.out.keys q hq
        exact WalkArith.wf_i64 (by omega))).mono ?_
      rintro e w9 ⟨A9, cap9, rfl, hv9, hb9, hfr9⟩
      obtain ⟨⟨q0, q1, qf⟩, _⟩ := hres.out _ (HR.out.2.trans (hb9.mono (by omega)))
      have hs9 := hb9.size
      have hwl : w.heap.size + 1 < w9.heap.size := by omega
      have H9 := Lib.hid (And.intro hv9 (And.intro hb9 hfr9))
      clear hv9 hb9 hfr9
      go_wp2_with fail
      rw [HE2.out]
      refine bodyPost_ret (v := .tuple #[.agg #[.int .i64 (canonC C M), .slice A9 M.length cap9], .int .i64 0]) (by simp [results, Tryz.results59, go_sem, q0, q1]) rfl ⟨A9, cap9, rfl, va2 _ (w.heap.size + 1 + 1) _ _ H9.out.1 (fun b off h e => by have := H9.out.2.2 b off h e; omega) (by omega), ?_⟩
      exact (((hres.out _ (HR.out.2.trans (H9.out.2.1.mono (by omega)))).2).setCell (by simp) _).setCell (by simp) _

set_option maxRecDepth 100000 in
set_option maxHeartbeats 4000000 in
theorem replaceA_any (c : Int) (A : Option Addr) (cap : Nat) (vs : List (Int × Int)) (K : Nat) (val : Int → Option LvD) (B : Nat) (w : World) (hv : VA w B A vs) (hB : B ≤ w.heap.size) (hvd : vldB c vs = true)
    (hval : ∀ W, Below w.heap.size w W → ∀ p ∈ vs, Calls Tryz.prog 63 #[.int .i64 p.1, .pointer (some ⟨K, 0, none⟩)] W (ValPost (val p.1) W))
    (hvl : ∀ p ∈ vs, ∀ l, val p.1 = some l → VA w B l.A l.vs ∧ l.vs.length ≤ 100) (hl : vs.length ≤ 100) :
    Calls Tryz.prog 59 #[.agg #[.int .i64 c, .slice A vs.length cap], .func (.func 63) #[] #[.pointer (some ⟨K, 0, none⟩)]] w
      (GivesLv (finR (repR val vs c [])).1.1 (finR (repR val vs c [])).1.2 (finR (repR val vs c [])).2 w) := by
  go_enter Tryz.func59, Tryz.ntmps59
  have hq := Lib.hid (show ((w.alloc (.cells #[.int .i64 c, .slice A vs.length cap] 24)).alloc (.cells #[.int .i64 0, .slice none 0 0] 24)).heap[w.heap.size + 1]? = some (.cells #[.int .i64 0, .slice none 0 0] 24 (0, 0)) from PSt.alloc_last _ _ _ (by simp))
  have hb1 := Lib.hid (show Below w.heap.size w ((w.alloc (.cells #[.int .i64 c, .slice A vs.length cap] 24)).alloc (.cells #[.int .i64 0, .slice none 0 0] 24)) from ((Below.refl _ _).alloc (Nat.le_refl _) _).alloc (by simp) _)
  have hx0 := Lib.hid (show ((w.alloc (.cells #[.int .i64 c, .slice A vs.length cap] 24)).alloc (.cells #[.int .i64 0, .slice none 0 0] 24)).cell? ⟨w.heap.size, 0, none⟩ = some (.int .i64 c) by go_simp)
  have hx1 := Lib.hid (show ((w.alloc (.cells #[.int .i64 c, .slice A vs.length cap] 24)).alloc (.cells #[.int .i64 0, .slice none 0 0] 24)).cell? ⟨w.heap.size, 1, none⟩ = some (.slice A vs.length cap) by go_simp)
  go_wp2_with fail
  refine (newCollector_any _).mono ?_
  rintro e w4 ⟨mb, rfl, hm4, hb4, hmb⟩
  have hs4 := hb4.size
  simp only [World.size_alloc] at hs4 hmb
  have l0 := (hb4.cell (p := ⟨w.heap.size, 0, none⟩) (by simp; omega)).trans hx0.out
  have l1 := (hb4.cell (p := ⟨w.heap.size, 1, none⟩) (by simp; omega)).trans hx1.out
  have hqq := (hb4.block (w.heap.size + 1) (by simp)).trans hq.out
  have hbw4 := hb1.out.trans (hb4.mono (by simp; omega))
  have HC4 := Lib.hid (And.intro hm4 (And.intro hqq hbw4))
  clear hm4 hb4 hqq hbw4 hb1 hq hx0 hx1
  have hlt0 : w.heap.size < w4.heap.size := by omega
  have hC0 := Lib.hid (show Col (w4.alloc (.cells #[.map (some mb), .int .i64 c] 102)) w4.heap.size mb 0 [] c from ⟨PSt.alloc_last _ _ _ rfl, World.ownsMap.alloc HC4.out.1 _⟩)
  have hB0 := Lib.hid (show Below (w.heap.size + 1 + 1) w4 (w4.alloc (.cells #[.map (some mb), .int .i64 c] 102)) from (Below.refl _ _).alloc (by omega) _)
  have hres : Hid (∀ W, Below (w.heap.size + 1 + 1) w4 W → (W.cell? ⟨w.heap.size + 1, 0, none⟩ = some (.int .i64 0) ∧ W.cell? ⟨w.heap.size + 1, 1, none⟩ = some (.slice none 0 0) ∧ (∀ o, W.frozen? ⟨w.heap.size + 1, o, none⟩ = false)) ∧ Below w.heap.size w W) := Lib.hid (fun W h => by
    have e := (h.block (w.heap.size + 1) (by omega)).trans HC4.out.2.1
    exact ⟨⟨by simp [World.cell?, e], by simp [World.cell?, e], fun o => by simp [World.frozen?, e]⟩, HC4.out.2.2.trans (h.mono (by omega))⟩)
  have HV := Lib.hid hv
  have HVL := Lib.hid hvl
  have HVAL := Lib.hid hval
  have HD := Lib.hid (vld_in hvd)
  clear hv hvl hval hvd
  go_wp2_with fail
  generalize w4.alloc (.cells #[.map (some mb), .int .i64 c] 102) = W0 at *
  go_loopw [20] (fun i wr => ∃ (k n : Nat) (M : List (Int × Int)) (C : Int), k ≤ vs.length ∧ i = .int .i64 k ∧ n ≤ k * 101 ∧ Hid (repR val (vs.drop k) C M = repR val vs c []) ∧ Hid (MOk M n) ∧ Col wr w4.heap.size mb n M C ∧ Below (w.heap.size + 1 + 1) w4 wr) (fun i _ => vs.length - (intOf i).toNat)
  case atStart => exact ⟨0, 0, [], c, Nat.zero_le _, rfl, Nat.zero_le _, Lib.hid rfl, Lib.hid MOk.nil, hC0.out, hB0.out⟩
  case round =>
    obtain ⟨k, n, M, C, hk, rfl, hn, hE, hMO, hcr, hbr⟩ := hrel
    have hcl := hcr.lt
    have hml := hcr.mlt
    have HR := Lib.hid (And.intro hcr hbr)
    obtain ⟨⟨r0, r1, rf⟩, hbw⟩ := hres.out _ hbr
    have hsr := hbr.size
    have HBW := Lib.hid hbw
    by_cases hlk : k < vs.length
    · obtain ⟨b, off, x, y, rfl, hb, hg, hc0, hc1, hd0, hd1⟩ := (HV.out.below hbw hB).ata (by have := hbw.size; omega) hlk
      have hmem : (x, y) ∈ vs := List.mem_of_getElem? hg
      have hdr := drop_at hg
      have hxy := HD.out (x, y) hmem
      have hbl : b < wr.heap.size := by have := hbw.size; omega
      have HG := Lib.hid (And.intro hmem hdr)
      have hbW := HBW.out.alloc (by have := hbw.size; omega) (.cells #[.int .i64 x, .int .i64 y] 69)
      have hcall := Lib.hid (HVAL.out _ hbW (x, y) hmem)
      have hvls := Lib.hid (HVL.out (x, y) hmem)
      clear hmem hdr hg hcr hbr hbw hbW
      obtain ⟨⟨hx1, hx2⟩, hy1, hy2⟩ := hxy
      rcases hvx : val x with _ | l
      · have hcall2 : Hid (Calls Tryz.prog 63 #[.int .i64 x, .pointer (some ⟨K, 0, none⟩)] (wr.alloc (.cells #[.int .i64 x, .int .i64 y] 69)) fun e w' => e = .returned (.tuple #[.agg #[.int .i64 0, .slice none 0 0], .bool false]) ∧ Below (wr.alloc (.cells #[.int .i64 x, .int .i64 y] 69)).heap.size (wr.alloc (.cells #[.int .i64 x, .int .i64 y] 69)) w') := Lib.hid (by have h := hcall.out; simp only [hvx] at h; exact h)
        have HE := Lib.hid (show repR val (vs.drop (k + 1)) C (raiseL M x y) = repR val vs c [] from by
          rw [← hE.out, HG.out.2]
          simp only [repR, hvx])
        clear hvx hcall hvls
        go_wp2_with fail
        refine hcall2.out.mono ?_
        rintro e w5 ⟨rfl, hb5⟩
        have hs5 := hb5.size
        simp only [World.size_alloc] at hs5
        have v0 : w5.cell? ⟨wr.heap.size, 0, none⟩ = some (.int .i64 x) := (hb5.cell (p := ⟨wr.heap.size, 0, none⟩) (by simp)).trans (by go_simp)
        have v1 : w5.cell? ⟨wr.heap.size, 1, none⟩ = some (.int .i64 y) := (hb5.cell (p := ⟨wr.heap.size, 1, none⟩) (by simp)).trans (by go_simp)
        have hcA := Lib.hid (Col.kept ((Col.kept HR.out.1 (row := none) (grown_alloc (grown_refl _ _) (.cells #[.int .i64 x, .int .i64 y] 69)) (by simp) (by simp)).below hb5 (by simp; omega) (by simp; omega)) (row := none) (grown_alloc (grown_refl _ _) (.cells #[.int .i64 0, .slice none 0 0] 24)) (by simp) (by simp))
        have hBA := Lib.hid (((HR.out.2.alloc (by omega) (.cells #[.int .i64 x, .int .i64 y] 69)).trans (hb5.mono (by simp; omega))).alloc (by omega) (.cells #[.int .i64 0, .slice none 0 0] 24))
        have m0 := hcA.out.c0
        have hvl5 : wr.heap.size < w5.heap.size := by omega
        clear hb5
        go_wp2_with fail
        refine (raise_any mb n M x y _ hcA.out.map (by omega) (WalkArith.wf_i64 (by omega)) (WalkArith.wf_i64 (by omega))).mono ?_
        rintro e w6 ⟨rfl, hm6, hg6⟩
        have HN := Lib.hid (And.intro (hcA.out.raised hm6 hg6) (below_of_grown hBA.out hg6 (by omega) (by simp; omega)))
        clear hm6 hg6
        go_wp2_with fail
        go_roundw
        case rel => exact ⟨k + 1, n + 1, _, C, hlk, by go_num, by omega, HE, Lib.hid (hMO.out.raise ⟨hx1, hx2⟩), HN.out.1, HN.out.2⟩
        case measure => simp [intOf]; omega
      · have hcall2 : Hid (Calls Tryz.prog 63 #[.int .i64 x, .pointer (some ⟨K, 0, none⟩)] (wr.alloc (.cells #[.int .i64 x, .int .i64 y] 69)) fun e w' => e = .returned (.tuple #[.agg #[.int .i64 l.c, .slice l.A l.vs.length l.cap], .bool true]) ∧ Below (wr.alloc (.cells #[.int .i64 x, .int .i64 y] 69)).heap.size (wr.alloc (.cells #[.int .i64 x, .int .i64 y] 69)) w') := Lib.hid (by have h := hcall.out; simp only [hvx] at h; exact h)
        have HL := Lib.hid (hvls.out l hvx)
        have HE : Hid (repR val vs c [] = if plusE l.c l.vs y = 0 then repR val (vs.drop (k + 1)) (max C (plusC l.c l.vs y)) (raiseAll M (plusV l.c l.vs y)) else ((0, []), plusE l.c l.vs y)) := Lib.hid (by
          rw [← hE.out, HG.out.2]
          simp only [repR, hvx])
        have hpp := Lib.hid (plus_parts (c := l.c) (vs := l.vs) y)
        clear hvx hcall hvls
        go_wp2_with fail
        refine hcall2.out.mono ?_
        rintro e w5 ⟨rfl, hb5⟩
        have hs5 := hb5.size
        simp only [World.size_alloc] at hs5
        have v1 : w5.cell? ⟨wr.heap.size, 1, none⟩ = some (.int .i64 y) := (hb5.cell (p := ⟨wr.heap.size, 1, none⟩) (by simp)).trans (by go_simp)
        have hcA := Lib.hid (Col.kept ((Col.kept HR.out.1 (row := none) (grown_alloc (grown_refl _ _) (.cells #[.int .i64 x, .int .i64 y] 69)) (by simp) (by simp)).below hb5 (by simp; omega) (by simp; omega)) (row := none) (grown_alloc (grown_refl _ _) (.cells #[.int .i64 l.c, .slice l.A l.vs.length l.cap] 24)) (by simp) (by simp))
        have hBA := Lib.hid (((HR.out.2.alloc (by omega) (.cells #[.int .i64 x, .int .i64 y] 69)).trans (hb5.mono (by simp; omega))).alloc (by omega) (.cells #[.int .i64 l.c, .slice l.A l.vs.length l.cap] 24))
        have hvl5 : wr.heap.size < w5.heap.size := by omega
        have hvP := HL.out.1.below ((hres.out _ hBA.out).2) hB
        have hsz5 : B ≤ (w5.alloc (.cells #[.int .i64 l.c, .slice l.A l.vs.length l.cap] 24)).heap.size := by have := ((hres.out _ hBA.out).2).size; omega
        clear hb5
        go_wp2_with fail
        refine (plus_any l.c l.A l.cap l.vs y B _ hvP hsz5).mono ?_
        rintro e w6 ⟨A', cap', rfl, hv6, hb6⟩
        have hs6 := hb6.size
        simp only [World.size_alloc] at hs6
        have hB6 := Lib.hid (hBA.out.trans (hb6.mono (by simp; omega)))
        have hc6 := Lib.hid (hcA.out.below hb6 hcA.out.lt hcA.out.mlt)
        have HV6 := Lib.hid hv6
        obtain ⟨⟨q0, q1, qf⟩, _⟩ := hres.out _ hB6.out
        have hwl : w.heap.size + 1 < w6.heap.size := by omega
        clear hb6 hv6 hvP hsz5
        generalize plusC l.c l.vs y = pc at *
        generalize plusV l.c l.vs y = pv at *
        generalize plusE l.c l.vs y = pe at *
        by_cases hz : pe = 0
        · subst hz
          have hE2 := HE.out
          rw [if_pos rfl] at hE2
          have HE2 := Lib.hid hE2
          clear hE2 HE
          have hvA := Lib.hid ((HV6.out.alloc (Nat.le_refl _) (.cells #[.int .i64 pc, .slice A' pv.length cap'] 24)).more (B' := (w6.alloc (.cells #[.int .i64 pc, .slice A' pv.length cap'] 24)).heap.size) (by simp))
          have hcB := Lib.hid (Col.kept hc6.out (row := none) (grown_alloc (grown_refl _ _) (.cells #[.int .i64 pc, .slice A' pv.length cap'] 24)) (by simp) (by simp))
          have hBB := Lib.hid (hB6.out.alloc (by omega) (.cells #[.int .i64 pc, .slice A' pv.length cap'] 24))
          have hplen := Nat.le_trans hpp.out.2.2.2 HL.out.2
          go_wp2_with fail
          refine (add_any w4.heap.size mb n M C pc A' cap' pv _ hcB.out hvA.out (hvA.out.ne_col hcB.out) (by omega) (fun q hq => by
            have := hpp.out.2.2.1 q hq
            exact ⟨WalkArith.wf_i64 (by omega), WalkArith.wf_i64 (by omega)⟩) (w.heap.size + 1 + 1) (by omega) (by omega)).mono ?_
          rintro e w7 ⟨rfl, hc7, hb7⟩
          have HN := Lib.hid (And.intro hc7 (hBB.out.trans hb7))
          clear hc7 hb7
          go_wp2_with fail
          go_roundw
          case rel => exact ⟨k + 1, n + pv.length, _, _, hlk, by go_num, by omega, Lib.hid HE2.out.symm, Lib.hid (hMO.out.raiseAll fun q hq => (hpp.out.2.2.1 q hq).1), HN.out.1, HN.out.2⟩
          case measure => simp [intOf]; omega
        · have hd3 : (pe != 0) = true := by rw [bne_iff_ne]; exact hz
          have hE2 := HE.out
          rw [if_neg hz] at hE2
          have HE2 := Lib.hid hE2
          clear hE2 HE hz
          go_wp2_with fail
          rw [HE2.out]
          exact bodyPost_ret (v := .tuple #[.agg #[.int .i64 0, .slice none 0 0], .int .i64 pe]) (by
            have c0 : (((w6.setCell ⟨w.heap.size + 1, 0, none⟩ (.int .i64 0)).setCell ⟨w.heap.size + 1, 1, none⟩ (.slice none 0 0)).alloc (.cells #[.int .i64 pc, .slice A' pv.length cap'] 24)).cell? ⟨w.heap.size + 1, 0, none⟩ = some (.int .i64 0) := (World.cell?_alloc_lt _ _ _ (by show w.heap.size + 1 < _; simpa [World.setCell] using hwl)).trans (by simp [go_sem, q0])
            have c1 : (((w6.setCell ⟨w.heap.size + 1, 0, none⟩ (.int .i64 0)).setCell ⟨w.heap.size + 1, 1, none⟩ (.slice none 0 0)).alloc (.cells #[.int .i64 pc, .slice A' pv.length cap'] 24)).cell? ⟨w.heap.size + 1, 1, none⟩ = some (.slice none 0 0) := (World.cell?_alloc_lt _ _ _ (by show w.heap.size + 1 < _; simpa [World.setCell] using hwl)).trans (by simp [go_sem, q1])
            simp [results, Tryz.results59, go_sem, c0, c1]) rfl (by
              have hz0 : canonC 0 ([] : List (Int × Int)) = 0 := rfl
              show GivesLv (canonC 0 []) [] pe w _ _
              rw [hz0]
              exact gives_zero (((((hres.out _ hB6.out).2).setCell (by simp) _).setCell (by simp) _).alloc (by simp [World.setCell]; omega) _))
    · have hke : k = vs.length := by omega
      subst hke
      have hE2 := hE.out
      rw [List.drop_eq_nil_of_le (Nat.le_refl _)] at hE2
      have HE2 := Lib.hid (show repR val vs c [] = ((C, M), 0) from hE2.symm)
      clear hE2 hE hcr hbr hbw
      have hlm := hMO.out.len
      go_wp2_with fail
      refine (clevel_any w4.heap.size mb n M C wr HR.out.1 hMO.out.asc (by omega) (fun q hq => by
        have := hMO.out.keys q hq
        exact WalkArith.wf_i64 (by omega))).mono ?_
      rintro e w9 ⟨A9, cap9, rfl, hv9, hb9, hfr9⟩
      obtain ⟨⟨q0, q1, qf⟩, _⟩ := hres.out _ (HR.out.2.trans (hb9.mono (by omega)))
      have hs9 := hb9.size
      have hwl : w.heap.size + 1 < w9.heap.size := by omega
      have H9 := Lib.hid (And.intro hv9 (And.intro hb9 hfr9))
      clear hv9 hb9 hfr9
      go_wp2_with fail
      rw [HE2.out]
      refine bodyPost_ret (v := .tuple #[.agg #[.int .i64 (canonC C M), .slice A9 M.length cap9], .int .i64 0]) (by simp [results, Tryz.results59, go_sem, q0, q1]) rfl ⟨A9, cap9, rfl, va2 _ (w.heap.size + 1 + 1) _ _ H9.out.1 (fun b off h e => by have := H9.out.2.2 b off h e; omega) (by omega), ?_⟩
      exact (((hres.out _ (HR.out.2.trans (H9.out.2.1.mono (by omega)))).2).setCell (by simp) _).setCell (by simp) _

/-! Subst and Assign of the program. -/

def subR (c : Int) (vs : List (Int × Int)) (ls : List LvD) : (Int × List (Int × Int)) × Int :=
  if vldB c vs = true ∧ ls.all LvD.ok = true then (if (ls.length : Int) < parI c vs then ((0, []), 24) else finR (repR (valS ls) vs c [])) else ((0, []), 3)
def asgR (c : Int) (vs : List (Int × Int)) (ls : List LvD) : (Int × List (Int × Int)) × Int :=
  if vldB c vs = true ∧ ls.all LvD.ok = true then finR (repR (valA ls) vs c []) else ((0, []), 3)
/-- The boxes of Subst and Assign: the level, the slice of levels, the result. -/
structure SB (w0 w : World) (c : Int) (A : Option Addr) (n cap : Nat) (P : Option Addr) (m capp : Nat) : Prop where
  below : Below w0.heap.size w0 w
  size : w0.heap.size + 3 ≤ w.heap.size
  l0 : w.cell? ⟨w0.heap.size, 0, none⟩ = some (.int .i64 c)
  l1 : w.cell? ⟨w0.heap.size, 1, none⟩ = some (.slice A n cap)
  p0 : w.cell? ⟨w0.heap.size + 1, 0, none⟩ = some (.slice P m capp)
  q : w.heap[w0.heap.size + 1 + 1]? = some (.cells #[.int .i64 0, .slice none 0 0] 24 (0, 0))
namespace SB
variable {w0 w w' : World} {c : Int} {A P : Option Addr} {n cap m capp : Nat}
theorem next (h : SB w0 w c A n cap P m capp) (hb : Below w.heap.size w w') : SB w0 w' c A n cap P m capp :=
  have hs := h.size
  ⟨h.below.trans (hb.mono (by omega)), Nat.le_trans hs hb.size, (hb.cell (p := ⟨w0.heap.size, 0, none⟩) (by show w0.heap.size < _; omega)).trans h.l0, (hb.cell (p := ⟨w0.heap.size, 1, none⟩) (by show w0.heap.size < _; omega)).trans h.l1,
    (hb.cell (p := ⟨w0.heap.size + 1, 0, none⟩) (by show w0.heap.size + 1 < _; omega)).trans h.p0, (hb.block _ (by omega)).trans h.q⟩
theorem drew (h : SB w0 w c A n cap P m capp) : SB w0 w.drew c A n cap P m capp := ⟨h.below.drew, h.size, h.l0, h.l1, h.p0, h.q⟩
theorem q0 (h : SB w0 w c A n cap P m capp) : w.cell? ⟨w0.heap.size + 1 + 1, 0, none⟩ = some (.int .i64 0) := by simp [World.cell?, h.q]
theorem q1 (h : SB w0 w c A n cap P m capp) : w.cell? ⟨w0.heap.size + 1 + 1, 1, none⟩ = some (.slice none 0 0) := by simp [World.cell?, h.q]
theorem qf (h : SB w0 w c A n cap P m capp) (o : Nat) : w.frozen? ⟨w0.heap.size + 1 + 1, o, none⟩ = false := by simp [World.frozen?, h.q]
theorem start (w : World) (c : Int) (A : Option Addr) (n cap : Nat) (P : Option Addr) (m capp : Nat) : SB w (((w.alloc (.cells #[.int .i64 c, .slice A n cap] 24)).alloc (.cells #[.slice P m capp] 42)).alloc (.cells #[.int .i64 0, .slice none 0 0] 24)) c A n cap P m capp :=
  ⟨((((Below.refl _ _).alloc (Nat.le_refl _) _).alloc (by simp) _).alloc (by simp; omega) _), by simp, by go_simp, by go_simp, by go_simp, PSt.alloc_last _ _ _ (by simp)⟩
end SB
/-- No list of pairs of numbers lies where a level lies. -/
theorem VA.ne_lv {w : World} {B : Nat} {A : Option Addr} {vs : List (Int × Int)} (h : VA w B A vs) {q n k : Nat} {u : Value} {a : Option Addr} {t : TypeId} {m : Nat × Nat} (hq : w.heap[q]? = some (.cells #[u, .slice a n k] t m)) : ∀ b off, 0 < vs.length → A = some ⟨b, off, none⟩ → b ≠ q := by
  intro b off hn e he
  subst he
  obtain ⟨b', off', e', _, hcell⟩ := h.2 hn
  rw [e] at e'
  cases e'
  rcases hx : vs[0]? with _ | ⟨x, y⟩
  · rw [List.getElem?_eq_none_iff] at hx; omega
  · obtain ⟨h0, h1⟩ := hcell 0 x y hx
    simp only [World.cell?, hq] at h0 h1
    rcases off with _ | _ | off
    · simp at h1
    · simp at h0
    · simp at h0
theorem valS_mem {ls : List LvD} {x : Int} {l : LvD} (h : valS ls x = some l) : l ∈ ls := by
  unfold valS at h
  split at h
  · cases h
  · exact List.mem_of_getElem? h
theorem valA_mem {ls : List LvD} {x : Int} {l : LvD} (h : valA ls x = some l) : l ∈ ls := by
  unfold valA at h
  split at h
  · cases h
  · exact List.mem_of_getElem? h
theorem par_lt {c : Int} {vs : List (Int × Int)} (h : vldB c vs = true) : ∀ p ∈ vs, p.1 < parI c vs ∨ p.1 < 0 := by
  intro p hp
  obtain ⟨j, hj, rfl⟩ := List.mem_iff_getElem.1 hp
  have hl : vs.length - 1 < vs.length := by omega
  have e : vs[vs.length - 1]? = some vs[vs.length - 1] := List.getElem?_eq_getElem hl
  simp only [parI, h, if_true, e]
  have hpw := List.pairwise_iff_getElem.1 (vld_pw h)
  by_cases hlast : j = vs.length - 1
  · subst hlast; left; omega
  · have := hpw j (vs.length - 1) hj hl (by omega)
    left
    omega

set_option maxRecDepth 100000 in
set_option maxHeartbeats 4000000 in
theorem subst_any (c : Int) (A : Option Addr) (cap : Nat) (vs : List (Int × Int)) (P : Option Addr) (capp : Nat) (ls : List LvD) (B : Nat) (w : World) (hv : VA w B A vs) (hl : LL w B P ls) (hB : B ≤ w.heap.size) (hlv : vs.length ≤ 100) (hll : ∀ l ∈ ls, l.vs.length ≤ 100) :
    Calls Tryz.prog 29 #[.agg #[.int .i64 c, .slice A vs.length cap], .slice P ls.length capp] w (GivesLv (subR c vs ls).1.1 (subR c vs ls).1.2 (subR c vs ls).2 w) := by
  have hS := Lib.hid (SB.start w c A vs.length cap P ls.length capp)
  have HV := Lib.hid hv
  have HL := Lib.hid hl
  have HLL := Lib.hid hll
  have hlen := hl.len
  clear hv hl hll
  go_enter Tryz.func29, Tryz.ntmps29
  go_wp2_with fail
  refine (valid_any c A cap vs B _ (HV.out.below hS.out.below hB) (by have := hS.out.below.size; omega)).mono ?_
  rintro e w1 ⟨rfl, hb1⟩
  have S1 := Lib.hid (hS.out.next hb1)
  clear hb1 hS
  have p0 := S1.out.p0
  have l0 := S1.out.l0
  have l1 := S1.out.l1
  have q0 := S1.out.q0
  have q1 := S1.out.q1
  have qf := S1.out.qf
  have hs1 := S1.out.size
  have hk2 : w.heap.size + 1 + 1 < w1.heap.size := by omega
  cases hvd : vldB c vs with
  | false =>
    have HR := Lib.hid (show subR c vs ls = ((0, []), 3) by simp [subR, hvd])
    clear hvd
    go_wp2_with fail
    rw [HR.out]
    exact bodyPost_ret (v := .tuple #[.agg #[.int .i64 0, .slice none 0 0], .int .i64 3]) (by simp [results, Tryz.results29, go_sem, q0, q1]) rfl (gives_zero ((S1.out.below.setCell (by simp; omega) _).setCell (by simp; omega) _))
  | true =>
    have HVD := Lib.hid hvd
    clear hvd
    go_wp2_with fail
    refine (allValid_any P capp ls B _ (HL.out.below S1.out.below hB) (by omega)).mono ?_
    rintro e w2 ⟨rfl, hb2⟩
    have S2 := Lib.hid (S1.out.next hb2)
    clear hb2 S1 p0 l0 l1 q0 q1 qf hs1 hk2
    have p0 := S2.out.p0
    have l0 := S2.out.l0
    have l1 := S2.out.l1
    have q0 := S2.out.q0
    have q1 := S2.out.q1
    have qf := S2.out.qf
    have hs1 := S2.out.size
    have hk2 : w.heap.size + 1 + 1 < w2.heap.size := by omega
    cases hva : ls.all LvD.ok with
    | false =>
      have HR := Lib.hid (show subR c vs ls = ((0, []), 3) by simp [subR, hva])
      clear hva
      go_wp2_with fail
      rw [HR.out]
      exact bodyPost_ret (v := .tuple #[.agg #[.int .i64 0, .slice none 0 0], .int .i64 3]) (by simp [results, Tryz.results29, go_sem, q0, q1]) rfl (gives_zero ((S2.out.below.setCell (by simp; omega) _).setCell (by simp; omega) _))
    | true =>
      have HVA := Lib.hid hva
      clear hva
      have HR : Hid (subR c vs ls = if (ls.length : Int) < parI c vs then ((0, []), 24) else finR (repR (valS ls) vs c [])) := Lib.hid (by simp only [subR, HVD.out, HVA.out, and_self, if_true])
      have HPL := Lib.hid (par_lt HVD.out)
      have hpar := Lib.hid (fun (W : World) (hW : Below w.heap.size w W) => params_any c A cap vs B W (HV.out.below hW hB) (by have := hW.size; omega))
      generalize parI c vs = pq at *
      clear p0 l0 l1 q0 q1 qf
      go_wp2_with fail
      have HB := Lib.hid S2.out.drew
      go_region_held3 (fun w' => w'.cell? ⟨w.heap.size, 0, none⟩ = some (.int .i64 c) ∧ w'.cell? ⟨w.heap.size, 1, none⟩ = some (.slice A vs.length cap) ∧ w'.cell? ⟨w.heap.size + 1, 0, none⟩ = some (.slice P ls.length capp))
        (first | exact ⟨HB.out.l0, HB.out.l1, HB.out.p0⟩)
        (first
        | (go_at_call 35; refine (hpar.out _ HB.out.below).mono ?_; rintro e w7 ⟨rfl, hb7⟩; have HB := Lib.hid (HB.out.next hb7); clear hb7))
      all_goals
        have p0 := HB.out.p0
        have l0 := HB.out.l0
        have l1 := HB.out.l1
        have q0 := HB.out.q0
        have q1 := HB.out.q1
        have qf := HB.out.qf
        have hs7 := HB.out.size
        have hk7 : w.heap.size + 1 + 1 < w7.heap.size := by omega
        by_cases hpl : (ls.length : Int) < pq
        · have HR2 := Lib.hid (show subR c vs ls = ((0, []), 24) by rw [HR.out, if_pos hpl])
          go_wp2_with fail
          rw [HR2.out]
          exact bodyPost_ret (v := .tuple #[.agg #[.int .i64 0, .slice none 0 0], .int .i64 24]) (by simp [results, Tryz.results29, go_sem, q0, q1]) rfl (gives_zero ((HB.out.below.setCell (by simp; omega) _).setCell (by simp; omega) _))
        · have HR2 := Lib.hid (show subR c vs ls = finR (repR (valS ls) vs c []) by rw [HR.out, if_neg hpl])
          have hrep := Lib.hid (replaceS_any c A cap vs (w.heap.size + 1) (valS ls) B w7 (HV.out.below HB.out.below hB) (by omega) HVD.out
            (fun W hW p hp => subst1_any p.1 (w.heap.size + 1) P capp ls B W (HB.out.next hW).p0 ((HL.out.below HB.out.below hB).below hW (by omega)) (by have := hW.size; omega) (by have := HPL.out p hp; omega))
            (fun p _ l hl => ⟨(HL.out.below HB.out.below hB).2 l (valS_mem hl), HLL.out l (valS_mem hl)⟩) hlv)
          have hplf : pq ≤ (ls.length : Int) := by omega
          clear hpl
          rw [← HR2.out] at hrep
          generalize (subR c vs ls).1.1 = rc at *
          generalize (subR c vs ls).1.2 = rv at *
          generalize (subR c vs ls).2 = re at *
          go_wp2_with fail
          refine hrep.out.mono ?_
          rintro e w8 ⟨A8, cap8, rfl, hv8, hb8⟩
          have S8 := Lib.hid (HB.out.next hb8)
          have HV8 := Lib.hid hv8
          clear hv8 hb8 p0 l0 l1 q0 q1 qf
          have q0 := S8.out.q0
          have q1 := S8.out.q1
          have qf := S8.out.qf
          have hs8 := S8.out.size
          have hk8 : w.heap.size + 1 + 1 < w8.heap.size := by omega
          go_wp2_with fail
          refine bodyPost_ret (v := .tuple #[.agg #[.int .i64 rc, .slice A8 rv.length cap8], .int .i64 re]) (by simp [results, Tryz.results29, go_sem, q0, q1]) rfl ⟨A8, cap8, rfl, ?_, (S8.out.below.setCell (by simp; omega) _).setCell (by simp; omega) _⟩
          have hne := HV8.out.ne_lv S8.out.q
          have h2 := (HV8.out.setCell (p := ⟨w.heap.size + 1 + 1, 0, none⟩) hne (.int .i64 rc)).setCell (p := ⟨w.heap.size + 1 + 1, 1, none⟩) hne (.slice A8 rv.length cap8)
          simpa [World.setCell] using h2

set_option maxRecDepth 100000 in
set_option maxHeartbeats 4000000 in
theorem assign_any (c : Int) (A : Option Addr) (cap : Nat) (vs : List (Int × Int)) (P : Option Addr) (capp : Nat) (ls : List LvD) (B : Nat) (w : World) (hv : VA w B A vs) (hl : LL w B P ls) (hB : B ≤ w.heap.size) (hlv : vs.length ≤ 100) (hll : ∀ l ∈ ls, l.vs.length ≤ 100) :
    Calls Tryz.prog 31 #[.agg #[.int .i64 c, .slice A vs.length cap], .slice P ls.length capp] w (GivesLv (asgR c vs ls).1.1 (asgR c vs ls).1.2 (asgR c vs ls).2 w) := by
  have hS := Lib.hid (SB.start w c A vs.length cap P ls.length capp)
  have HV := Lib.hid hv
  have HL := Lib.hid hl
  have HLL := Lib.hid hll
  have hlen := hl.len
  clear hv hl hll
  go_enter Tryz.func31, Tryz.ntmps31
  go_wp2_with fail
  refine (valid_any c A cap vs B _ (HV.out.below hS.out.below hB) (by have := hS.out.below.size; omega)).mono ?_
  rintro e w1 ⟨rfl, hb1⟩
  have S1 := Lib.hid (hS.out.next hb1)
  clear hb1 hS
  have p0 := S1.out.p0
  have l0 := S1.out.l0
  have l1 := S1.out.l1
  have q0 := S1.out.q0
  have q1 := S1.out.q1
  have qf := S1.out.qf
  have hs1 := S1.out.size
  have hk2 : w.heap.size + 1 + 1 < w1.heap.size := by omega
  cases hvd : vldB c vs with
  | false =>
    have HR := Lib.hid (show asgR c vs ls = ((0, []), 3) by simp [asgR, hvd])
    clear hvd
    go_wp2_with fail
    rw [HR.out]
    exact bodyPost_ret (v := .tuple #[.agg #[.int .i64 0, .slice none 0 0], .int .i64 3]) (by simp [results, Tryz.results31, go_sem, q0, q1]) rfl (gives_zero ((S1.out.below.setCell (by simp; omega) _).setCell (by simp; omega) _))
  | true =>
    have HVD := Lib.hid hvd
    clear hvd
    go_wp2_with fail
    refine (allValid_any P capp ls B _ (HL.out.below S1.out.below hB) (by omega)).mono ?_
    rintro e w2 ⟨rfl, hb2⟩
    have S2 := Lib.hid (S1.out.next hb2)
    clear hb2 S1 p0 l0 l1 q0 q1 qf hs1 hk2
    have p0 := S2.out.p0
    have l0 := S2.out.l0
    have l1 := S2.out.l1
    have q0 := S2.out.q0
    have q1 := S2.out.q1
    have qf := S2.out.qf
    have hs1 := S2.out.size
    have hk2 : w.heap.size + 1 + 1 < w2.heap.size := by omega
    cases hva : ls.all LvD.ok with
    | false =>
      have HR := Lib.hid (show asgR c vs ls = ((0, []), 3) by simp [asgR, hva])
      clear hva
      go_wp2_with fail
      rw [HR.out]
      exact bodyPost_ret (v := .tuple #[.agg #[.int .i64 0, .slice none 0 0], .int .i64 3]) (by simp [results, Tryz.results31, go_sem, q0, q1]) rfl (gives_zero ((S2.out.below.setCell (by simp; omega) _).setCell (by simp; omega) _))
    | true =>
      have HVA := Lib.hid hva
      clear hva
      have HR2 := Lib.hid (show asgR c vs ls = finR (repR (valA ls) vs c []) by simp only [asgR, HVD.out, HVA.out, and_self, if_true])
      have HDI := Lib.hid (vld_in HVD.out)
      have hrep := Lib.hid (replaceA_any c A cap vs (w.heap.size + 1) (valA ls) B w2 (HV.out.below S2.out.below hB) (by omega) HVD.out
        (fun W hW p hp => assign1_any p.1 (w.heap.size + 1) P capp ls B W (S2.out.next hW).p0 ((HL.out.below S2.out.below hB).below hW (by omega)) (by have := hW.size; omega) (HDI.out p hp).1.1)
        (fun p _ l hl => ⟨(HL.out.below S2.out.below hB).2 l (valA_mem hl), HLL.out l (valA_mem hl)⟩) hlv)
      rw [← HR2.out] at hrep
      generalize (asgR c vs ls).1.1 = rc at *
      generalize (asgR c vs ls).1.2 = rv at *
      generalize (asgR c vs ls).2 = re at *
      go_wp2_with fail
      refine hrep.out.mono ?_
      rintro e w8 ⟨A8, cap8, rfl, hv8, hb8⟩
      have S8 := Lib.hid (S2.out.next hb8)
      have HV8 := Lib.hid hv8
      clear hv8 hb8 p0 l0 l1 q0 q1 qf
      have q0 := S8.out.q0
      have q1 := S8.out.q1
      have qf := S8.out.qf
      have hs8 := S8.out.size
      have hk8 : w.heap.size + 1 + 1 < w8.heap.size := by omega
      go_wp2_with fail
      refine bodyPost_ret (v := .tuple #[.agg #[.int .i64 rc, .slice A8 rv.length cap8], .int .i64 re]) (by simp [results, Tryz.results31, go_sem, q0, q1]) rfl ⟨A8, cap8, rfl, ?_, (S8.out.below.setCell (by simp; omega) _).setCell (by simp; omega) _⟩
      have hne := HV8.out.ne_lv S8.out.q
      have h2 := (HV8.out.setCell (p := ⟨w.heap.size + 1 + 1, 0, none⟩) hne (.int .i64 rc)).setCell (p := ⟨w.heap.size + 1 + 1, 1, none⟩) hne (.slice A8 rv.length cap8)
      simpa [World.setCell] using h2
end Go.Proofs.YtipnabbdhmapkaaGreatDoor
