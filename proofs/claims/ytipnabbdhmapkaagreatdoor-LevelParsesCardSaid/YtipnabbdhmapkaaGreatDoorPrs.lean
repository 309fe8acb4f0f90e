/- Parse. -/
import Derived.Test.YtipnabbdhmapkaaGreatDoorPok
import Derived.Test.YtipnabbdhmapkaaGreatDoorClv
namespace Go.Proofs.YtipnabbdhmapkaaGreatDoor
open Go.RowKit Go.Maps

/-- What Parse answers. -/
def prsE (s : ByteArray) : Int := if 65536 < s.size then 5 else match lvlOf s 0 with
  | none => 4
  | some ps => firstE ps
def prsL (s : ByteArray) : Int × List (Int × Int) := if 65536 < s.size then (0, []) else match lvlOf s 0 with
  | none => (0, [])
  | some ps => if firstE ps = 0 then (canonC (accC ps) (accM ps), accM ps) else (0, [])

theorem Own3.part_at {w : World} {base : Nat} {A : Option Addr} {n c : Nat} {vs : List PV} (h : Own3 w base (.slice A n c) vs) {k : Nat} {p : PV} (hk : vs[k]? = some p) :
    ∃ g, A = some ⟨g, 0, none⟩ ∧ g < w.heap.size ∧ w.cell? ⟨g, k * 3, none⟩ = some (.string p.pre) ∧ w.cell? ⟨g, k * 3 + 1, none⟩ = some (.int .i64 p.num) ∧ w.cell? ⟨g, k * 3 + 2, none⟩ = some (.int .i64 p.plus) := by
  have hkl : k < vs.length := (List.getElem?_eq_some_iff.1 hk).1
  obtain ⟨e0, e1, e2⟩ := flat3_at vs k p hk
  rcases h.2 with ⟨_, h0⟩ | ⟨g, cap', cur, hv, _, hg, _⟩
  · omega
  · injection hv with hA _ _
    have hc := World.ownsRow.cells h (g := g) (by rw [hA]; rfl)
    have c0 := hc _ _ e0
    have c1 := hc _ _ e1
    have c2 := hc _ _ e2
    rw [Addr.add_lit] at c0 c1 c2
    exact ⟨g, hA, (Array.getElem?_eq_some_iff.1 hg).1, by simpa using c0, by simpa using c1, by simpa using c2⟩

theorem below_grown_new {a w w' : World} {r : Nat} (h : Below a.heap.size a w) (hg : w.grownBy w' (some r)) (hr : a.heap.size ≤ r) : Below a.heap.size a w' :=
  Below.grown h hg h.size (fun k e => by cases e; exact hr)
theorem Col.mono {w : World} {cb mb n n' : Nat} {M : List (Int × Int)} {c : Int} (h : Col w cb mb n M c) (hn : n ≤ n') : Col w cb mb n' M c := ⟨h.col, World.ownsMap.mono h.map hn⟩

set_option maxRecDepth 100000 in
set_option maxHeartbeats 4000000 in
theorem parse_any (s : ByteArray) (w : World) (hs63 : s.size ≤ 140737488355328) : Calls Tryz.prog 42 #[.string s] w (GivesLv (prsL s).1 (prsL s).2 (prsE s) w) := by
  by_cases hlong : 65536 < s.size
  · have e1 : prsL s = (0, []) := by simp [prsL, hlong]
    have e2 : prsE s = 5 := by simp [prsE, hlong]
    rw [e1, e2]
    go_enter Tryz.func42, Tryz.ntmps42
    go_wp2_with fail
    exact bodyPost_ret (v := .tuple #[.agg #[.int .i64 0, .slice none 0 0], .int .i64 5]) (by simp [results, Tryz.results42, go_sem]) rfl (gives_zero ((Below.refl _ _).alloc (Nat.le_refl _) _))
  · have hs : s.size ≤ 65536 := by omega
    rcases hlv : lvlOf s 0 with _ | ps
    · have e1 : prsL s = (0, []) := by simp [prsL, hlong, hlv]
      have e2 : prsE s = 4 := by simp [prsE, hlong, hlv]
      rw [e1, e2]
      have hd : decide (65536 < (s.size : Int)) = false := by simp; omega
      go_enter Tryz.func42, Tryz.ntmps42
      have hRd := Lib.hid (show Rd ((w.alloc (.cells #[.int .i64 0, .slice none 0 0] 24)).alloc (.cells #[.string s, .int .i64 0] 95)) (w.heap.size + 1) s 0 from PSt.alloc_last _ _ _ (by simp))
      have hq := Lib.hid (show ((w.alloc (.cells #[.int .i64 0, .slice none 0 0] 24)).alloc (.cells #[.string s, .int .i64 0] 95)).heap[w.heap.size]? = some (.cells #[.int .i64 0, .slice none 0 0] 24 (0, 0)) from (Below.heap_alloc _ _ _ (by simp)).trans (PSt.alloc_last _ _ _ rfl))
      have hb1 := Lib.hid (show Below w.heap.size w ((w.alloc (.cells #[.int .i64 0, .slice none 0 0] 24)).alloc (.cells #[.string s, .int .i64 0] 95)) from ((Below.refl _ _).alloc (Nat.le_refl _) _).alloc (by simp) _)
      go_wp2_with fail
      refine (rlevel_rd (w.heap.size + 1) s 0 _ hRd.out (Nat.zero_le _) hs).mono ?_
      rw [hlv]
      rintro e w3 ⟨hg3, v, rfl⟩
      have hq3 := (hg3.block w.heap.size (by simp; omega) (by simp)).trans hq.out
      have k0 : w3.cell? ⟨w.heap.size, 0, none⟩ = some (.int .i64 0) := by simp [World.cell?, hq3]
      have k1 : w3.cell? ⟨w.heap.size, 1, none⟩ = some (.slice none 0 0) := by simp [World.cell?, hq3]
      have kf : ∀ o, w3.frozen? ⟨w.heap.size, o, none⟩ = false := fun o => by simp [World.frozen?, hq3]
      have HB := Lib.hid (below_grown_new hb1.out hg3 (by omega))
      clear hg3 hq3
      go_wp2_with fail
      exact bodyPost_ret (v := .tuple #[.agg #[.int .i64 0, .slice none 0 0], .int .i64 4]) (by simp [results, Tryz.results42, go_sem, k0, k1]) rfl (gives_zero ((HB.out.setCell (Nat.le_refl _) _).setCell (Nat.le_refl _) _))
    · have hPV := Lib.hid (lvlOf_ok hlv)
      have e2 : prsE s = firstE ps := by simp [prsE, hlong, hlv]
      have e1 := Lib.hid (show prsL s = if firstE ps = 0 then (canonC (accC ps) (accM ps), accM ps) else (0, []) by simp [prsL, hlong, hlv])
      rw [e2]
      clear e2
      have hd : decide (65536 < (s.size : Int)) = false := by simp; omega
      go_enter Tryz.func42, Tryz.ntmps42
      have hRd := Lib.hid (show Rd ((w.alloc (.cells #[.int .i64 0, .slice none 0 0] 24)).alloc (.cells #[.string s, .int .i64 0] 95)) (w.heap.size + 1) s 0 from PSt.alloc_last _ _ _ (by simp))
      have hq := Lib.hid (show ((w.alloc (.cells #[.int .i64 0, .slice none 0 0] 24)).alloc (.cells #[.string s, .int .i64 0] 95)).heap[w.heap.size]? = some (.cells #[.int .i64 0, .slice none 0 0] 24 (0, 0)) from (Below.heap_alloc _ _ _ (by simp)).trans (PSt.alloc_last _ _ _ rfl))
      have hb1 := Lib.hid (show Below w.heap.size w ((w.alloc (.cells #[.int .i64 0, .slice none 0 0] 24)).alloc (.cells #[.string s, .int .i64 0] 95)) from ((Below.refl _ _).alloc (Nat.le_refl _) _).alloc (by simp) _)
      go_wp2_with fail
      refine (rlevel_rd (w.heap.size + 1) s 0 _ hRd.out (Nat.zero_le _) hs).mono ?_
      rw [hlv]
      rintro e w3 ⟨hg3, v, rfl, hown, hpl⟩
      have hq3 := (hg3.block w.heap.size (by simp; omega) (by simp)).trans hq.out
      have hs3 := hg3.size
      simp only [World.size_alloc] at hs3
      have HB := Lib.hid (And.intro (below_grown_new hb1.out hg3 (by omega)) (And.intro hq3 hown))
      clear hg3 hq3 hown hlv
      obtain ⟨A, cap, rfl⟩ : ∃ A cap, v = .slice A ps.length cap := by
        rcases HB.out.2.2.2 with ⟨rfl, h0⟩ | ⟨g, cap, cur, rfl, _⟩
        · exact ⟨none, 0, by rw [h0]⟩
        · exact ⟨_, _, rfl⟩
      go_wp2_with fail
      refine (newCollector_any w3).mono ?_
      rintro e w4 ⟨mb, rfl, hm4, hb4, hmb⟩
      have hs4 := hb4.size
      have HC4 := Lib.hid (And.intro hm4 hb4)
      clear hm4 hb4
      have hC0 := Lib.hid (show Col (w4.alloc (.cells #[.map (some mb), .int .i64 0] 102)) w4.heap.size mb 0 (accM (ps.take 0)) (accC (ps.take 0)) from ⟨PSt.alloc_last _ _ _ rfl, World.ownsMap.alloc HC4.out.1 _⟩)
      have hB0 := Lib.hid (show Below w3.heap.size w3 (w4.alloc (.cells #[.map (some mb), .int .i64 0] 102)) from HC4.out.2.alloc hs4 _)
      have hres : Hid (∀ W, Below w3.heap.size w3 W → W.cell? ⟨w.heap.size, 0, none⟩ = some (.int .i64 0) ∧ W.cell? ⟨w.heap.size, 1, none⟩ = some (.slice none 0 0) ∧ (∀ o, W.frozen? ⟨w.heap.size, o, none⟩ = false)) := Lib.hid (fun W h => by
        have e := (h.block w.heap.size (by omega)).trans HB.out.2.1
        exact ⟨by simp [World.cell?, e], by simp [World.cell?, e], fun o => by simp [World.frozen?, e]⟩)
      have hbw : Hid (∀ W, Below w3.heap.size w3 W → Below w.heap.size w W) := Lib.hid (fun W h => HB.out.1.trans (h.mono (by omega)))
      clear hRd hq hb1
      go_wp2_with fail
      generalize w4.alloc (.cells #[.map (some mb), .int .i64 0] 102) = W0 at *
      go_loopw [28] (fun i wr => ∃ k : Nat, k ≤ ps.length ∧ i = .int .i64 k ∧ Hid (∀ q ∈ ps.take k, plE q = 0) ∧ Col wr w4.heap.size mb k (accM (ps.take k)) (accC (ps.take k)) ∧ Below w3.heap.size w3 wr) (fun i _ => ps.length - (intOf i).toNat)
      case atStart => exact ⟨0, Nat.zero_le _, rfl, Lib.hid (by simp), hC0.out, hB0.out⟩
      case round =>
        obtain ⟨k, hk, rfl, hE, hcr, hbr⟩ := hrel
        have hsr := hbr.size
        have HR := Lib.hid (And.intro hcr hbr)
        have hcl := hcr.lt
        have hml := hcr.mlt
        obtain ⟨r0, r1, rf⟩ := hres.out _ hbr
        by_cases hlk : k < ps.length
        · rcases hpk : ps[k]? with _ | p
          · rw [List.getElem?_eq_none_iff] at hpk; omega
          obtain ⟨g, rfl, hgl, hc0, hc1, hc2⟩ := HB.out.2.2.part_at hpk
          have hd0 := (hbr.cell (p := ⟨g, k * 3, none⟩) hgl).trans hc0
          have hd1 := (hbr.cell (p := ⟨g, k * 3 + 1, none⟩) hgl).trans hc1
          have hd2 := (hbr.cell (p := ⟨g, k * 3 + 2, none⟩) hgl).trans hc2
          have hok := hPV.out p (List.mem_of_getElem? hpk)
          have HP := Lib.hid (And.intro hpk hok)
          clear hc0 hc1 hc2 hcr hbr hpk hok
          go_wp2_with fail
          refine (plevel_any p _ HP.out.2.2.1 HP.out.2.2.2 HP.out.2.1).mono ?_
          rintro e w5 ⟨A', cap', rfl, hv5, hb5, hfr⟩
          have hs5 := hb5.size
          simp only [World.size_alloc] at hs5
          have hB5 : Below w3.heap.size w3 w5 := (HR.out.2.alloc hsr _).trans (hb5.mono (by simp; omega))
          obtain ⟨q0, q1, qf⟩ := hres.out _ hB5
          have hwl : w.heap.size < w5.heap.size := by omega
          have H5 := Lib.hid (And.intro hv5 (And.intro hb5 (And.intro hfr hB5)))
          clear hv5 hb5 hfr hB5
          by_cases hz : plE p = 0
          · have hz2 := Lib.hid hz
            have hd3 : (plE p != 0) = false := by rw [hz]; rfl
            clear hz
            have hcA := Lib.hid (Col.kept ((Col.kept HR.out.1 (row := none) (grown_alloc (grown_refl _ _) (.cells #[.string p.pre, .int .i64 p.num, .int .i64 p.plus] 105)) (by simp) (by simp)).below H5.out.2.1 (by simp; omega) (by simp; omega)) (row := none) (grown_alloc (grown_refl _ _) (.cells #[.int .i64 (plC p), .slice A' (plV p).length cap'] 24)) (by simp) (by simp))
            have hvA := Lib.hid ((H5.out.1.alloc (Nat.le_refl _) (.cells #[.int .i64 (plC p), .slice A' (plV p).length cap'] 24)).more (B' := (w5.alloc (.cells #[.int .i64 (plC p), .slice A' (plV p).length cap'] 24)).heap.size) (by simp))
            have hneA : ∀ b off, 0 < (plV p).length → A' = some ⟨b, off, none⟩ → b ≠ w4.heap.size := fun b off h e => by
              have := H5.out.2.2.1 b off h e
              simp only [World.size_alloc] at this
              omega
            have hvp := plV_ok p
            have hBA := Lib.hid (H5.out.2.2.2.alloc (by omega) (.cells #[.int .i64 (plC p), .slice A' (plV p).length cap'] 24))
            go_wp2_with fail
            refine (add_any w4.heap.size mb k _ _ (plC p) A' cap' (plV p) _ hcA.out hvA.out hneA (by omega) (fun q hq => by
              have := hvp.2 q hq
              exact ⟨WalkArith.wf_i64 (by omega), WalkArith.wf_i64 (by omega)⟩) w3.heap.size hs4 hmb).mono ?_
            rintro e w6 ⟨rfl, hc6, hb6⟩
            have HN := Lib.hid (show Col w6 w4.heap.size mb (k + 1) (accM (ps.take (k + 1))) (accC (ps.take (k + 1))) ∧ Below w3.heap.size w3 w6 ∧ (∀ q ∈ ps.take (k + 1), plE q = 0) from by
              have e1 : ps.take (k + 1) = ps.take k ++ [p] := by rw [List.take_add_one, HP.out.1]; rfl
              rw [e1, accM_step, accC_step]
              refine ⟨hc6.mono (by omega), hBA.out.trans hb6, fun q hq => ?_⟩
              rcases List.mem_append.1 hq with h | h
              · exact hE.out q h
              · simp at h; subst h; exact hz2.out)
            clear hc6 hb6
            go_wp2
            go_roundw
            case rel => exact ⟨k + 1, hlk, rfl, Lib.hid HN.out.2.2, HN.out.1, HN.out.2.1⟩
            case measure => simp [intOf]; omega
          · have hz2 := Lib.hid hz
            have hd3 : (plE p != 0) = true := by rw [bne_iff_ne]; exact hz
            have hfe := Lib.hid (firstE_take HP.out.1 hE.out hz)
            clear hz
            go_wp2_with fail
            rw [e1.out, hfe.out, if_neg hz2.out]
            exact bodyPost_ret (v := .tuple #[.agg #[.int .i64 0, .slice none 0 0], .int .i64 (plE p)]) (by
              have c0 : (((w5.setCell ⟨w.heap.size, 0, none⟩ (.int .i64 0)).setCell ⟨w.heap.size, 1, none⟩ (.slice none 0 0)).alloc (.cells #[.int .i64 (plC p), .slice A' (plV p).length cap'] 24)).cell? ⟨w.heap.size, 0, none⟩ = some (.int .i64 0) := (World.cell?_alloc_lt _ _ _ (by show w.heap.size < _; simpa [World.setCell] using hwl)).trans (by simp [go_sem, q0])
              have c1 : (((w5.setCell ⟨w.heap.size, 0, none⟩ (.int .i64 0)).setCell ⟨w.heap.size, 1, none⟩ (.slice none 0 0)).alloc (.cells #[.int .i64 (plC p), .slice A' (plV p).length cap'] 24)).cell? ⟨w.heap.size, 1, none⟩ = some (.slice none 0 0) := (World.cell?_alloc_lt _ _ _ (by show w.heap.size < _; simpa [World.setCell] using hwl)).trans (by simp [go_sem, q1])
              simp [results, Tryz.results42, go_sem, c0, c1]) rfl (gives_zero ((((hbw.out _ H5.out.2.2.2).setCell (Nat.le_refl _) _).setCell (Nat.le_refl _) _).alloc (by simp [World.setCell]; omega) _))
        · have hke : k = ps.length := by omega
          subst hke
          have hfe := Lib.hid (firstE_all (ps := ps) (by have := hE.out; rw [List.take_length] at this; exact this))
          have HC9 := Lib.hid (show Col wr w4.heap.size mb ps.length (accM ps) (accC ps) from by have := HR.out.1; rw [List.take_length] at this; exact this)
          have hlm := length_accM ps
          clear hcr hbr
          go_wp2_with fail
          refine (clevel_any w4.heap.size mb ps.length (accM ps) (accC ps) wr HC9.out (asc_accM ps) (by omega) (fun q hq => by
            have := keys_accM ps q hq
            exact WalkArith.wf_i64 (by omega))).mono ?_
          rintro e w9 ⟨A9, cap9, rfl, hv9, hb9, hfr9⟩
          obtain ⟨q0, q1, qf⟩ := hres.out _ (HR.out.2.trans (hb9.mono hsr))
          have hs9 := hb9.size
          have hwl : w.heap.size < w9.heap.size := by omega
          have H9 := Lib.hid (And.intro hv9 (And.intro hb9 hfr9))
          clear hv9 hb9 hfr9
          go_wp2_with fail
          rw [e1.out, hfe.out, if_pos rfl]
          refine bodyPost_ret (v := .tuple #[.agg #[.int .i64 (canonC (accC ps) (accM ps)), .slice A9 (accM ps).length cap9], .int .i64 0]) (by simp [results, Tryz.results42, go_sem, q0, q1]) rfl ⟨A9, cap9, rfl, va2 _ (w.heap.size + 1) _ _ H9.out.1 (fun b off h e => by have := H9.out.2.2 b off h e; omega) (by omega), ?_⟩
          exact ((hbw.out _ (HR.out.2.trans (H9.out.2.1.mono hsr))).setCell (Nat.le_refl _) _).setCell (Nat.le_refl _) _
end Go.Proofs.YtipnabbdhmapkaaGreatDoor
