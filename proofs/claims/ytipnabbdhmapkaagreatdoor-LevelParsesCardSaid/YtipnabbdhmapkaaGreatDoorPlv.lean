/- The level of a part. -/
import Derived.Test.YtipnabbdhmapkaaGreatDoorRlv
import Derived.Test.YtipnabbdhmapkaaGreatDoorOf
namespace Go.Proofs.YtipnabbdhmapkaaGreatDoor
open Go.RowKit

/-- As GivesLv, and the row is a new one. -/
def GivesF (c : Int) (vs : List (Int × Int)) (err : Int) (w : World) (e : Ending) (w' : World) : Prop :=
  ∃ A cap, e = .returned (.tuple #[.agg #[.int .i64 c, .slice A vs.length cap], .int .i64 err]) ∧ VA w' w'.heap.size A vs ∧ Below w.heap.size w w' ∧ ∀ b off, 0 < vs.length → A = some ⟨b, off, none⟩ → w.heap.size ≤ b
theorem givesf_zero {err : Int} {w w' : World} (hb : Below w.heap.size w w') : GivesF 0 [] err w (.returned (.tuple #[.agg #[.int .i64 0, .slice none 0 0], .int .i64 err])) w' :=
  ⟨none, 0, rfl, VA.nil, hb, fun _ _ h => absurd h (by simp)⟩
theorem GivesF.lv {c : Int} {vs : List (Int × Int)} {err : Int} {w w' : World} {e : Ending} (h : GivesF c vs err w e w') : GivesLv c vs err w e w' := by
  obtain ⟨A, cap, h1, h2, h3, _⟩ := h
  exact ⟨A, cap, h1, h2, h3⟩
set_option maxHeartbeats 400000 in
theorem var_fresh (i p : Int) (w : World) :
    Calls Tryz.prog 17 #[.int .i64 i, .int .i64 p] w (GivesF 0 (varV i p) (varE i p) w) := by
  by_cases h1 : -65536 ≤ i ∧ i ≤ 7
  · obtain ⟨h1, h2⟩ := h1
    by_cases h3 : 0 ≤ p
    · by_cases h4 : p ≤ 100
      · rw [show varV i p = [(i, p)] by simp [varV, varOk, h1, h2, h3, h4], show varE i p = 0 by simp [varE, h1, h2, h3, h4]]
        go_enter Tryz.func17, Tryz.ntmps17
        go_wp2_with (go_at_call 48; refine (inRange_yes _ _ _ _ (by omega) (by omega)).mono ?_; rintro e w' ⟨rfl, rfl⟩)
        exact bodyPost_ret (v := .tuple #[.agg #[.int .i64 0, .slice (some ⟨w.heap.size + 1, 0, none⟩) 1 1], .int .i64 0]) (by simp [results, Tryz.results17, go_sem]) rfl ⟨some ⟨w.heap.size + 1, 0, none⟩, 1, rfl, VA.one (by go_simp) (by go_simp) (by simp), ((Below.refl _ _).alloc (Nat.le_refl _) _).alloc (by simp) _, fun b off _ e => by cases e; omega⟩
      · rw [show varV i p = [] by simp [varV, varOk, h4], show varE i p = 15 by simp [varE, h1, h2, h3, h4]]
        go_enter Tryz.func17, Tryz.ntmps17
        go_wp2_with (go_at_call 48; refine (inRange_yes _ _ _ _ (by omega) (by omega)).mono ?_; rintro e w' ⟨rfl, rfl⟩)
        exact bodyPost_ret (v := .tuple #[.agg #[.int .i64 0, .slice none 0 0], .int .i64 15]) (by simp [results, Tryz.results17, go_sem]) rfl (givesf_zero ((Below.refl _ _).alloc (Nat.le_refl _) _))
    · rw [show varV i p = [] by simp [varV, varOk, h3], show varE i p = 2 by simp [varE, h3]]
      go_enter Tryz.func17, Tryz.ntmps17
      go_wp2_with (go_at_call 48; refine (inRange_yes _ _ _ _ (by omega) (by omega)).mono ?_; rintro e w' ⟨rfl, rfl⟩)
      exact bodyPost_ret (v := .tuple #[.agg #[.int .i64 0, .slice none 0 0], .int .i64 2]) (by simp [results, Tryz.results17, go_sem]) rfl (givesf_zero ((Below.refl _ _).alloc (Nat.le_refl _) _))
  · rw [show varV i p = [] by rcases Decidable.not_and_iff_or_not.1 h1 with h | h <;> simp [varV, varOk, h], show varE i p = 2 by rcases Decidable.not_and_iff_or_not.1 h1 with h | h <;> simp [varE, h]]
    go_enter Tryz.func17, Tryz.ntmps17
    go_wp2_with (go_at_call 48; refine (inRange_no _ _ _ _ h1).mono ?_; rintro e w' ⟨rfl, rfl⟩)
    exact bodyPost_ret (v := .tuple #[.agg #[.int .i64 0, .slice none 0 0], .int .i64 2]) (by simp [results, Tryz.results17, go_sem]) rfl (givesf_zero ((Below.refl _ _).alloc (Nat.le_refl _) _))

def plC (p : PV) : Int := if p.pre = uS then 0 else if p.pre = qS then 0 else ofC p.num
def plV (p : PV) : List (Int × Int) := if p.pre = uS then varV p.num p.plus else if p.pre = qS then varV (-1 - p.num) p.plus else []
def plE (p : PV) : Int := if p.pre = uS then varE p.num p.plus else if p.pre = qS then varE (-1 - p.num) p.plus else ofE p.num

theorem below2 {w w1 : World} {o1 o2 : Obj} (h : Below ((w.alloc o1).alloc o2).heap.size ((w.alloc o1).alloc o2) w1) : Below w.heap.size w w1 :=
  (((Below.refl w.heap.size w).alloc (Nat.le_refl _) o1).alloc (by simp) o2).trans (h.mono (by simp; omega))
theorem va2 {w1 : World} {A : Option Addr} {vs : List (Int × Int)} (c n : Nat) (u0 u1 : Value) (h : VA w1 w1.heap.size A vs) (hn : ∀ b off, 0 < vs.length → A = some ⟨b, off, none⟩ → n ≤ b) (hc : c < n) : VA ((w1.setCell ⟨c, 0, none⟩ u0).setCell ⟨c, 1, none⟩ u1) ((w1.setCell ⟨c, 0, none⟩ u0).setCell ⟨c, 1, none⟩ u1).heap.size A vs := by
  have hne : ∀ b off, 0 < vs.length → A = some ⟨b, off, none⟩ → b ≠ c := fun b off h0 e => by have := hn b off h0 e; omega
  have := (h.setCell (p := ⟨c, 0, none⟩) hne u0).setCell (p := ⟨c, 1, none⟩) hne u1
  simpa [World.setCell] using this


set_option maxRecDepth 100000 in
set_option maxHeartbeats 1000000 in
theorem plevel_any (p : PV) (w : World) (h0 : 0 ≤ p.num) (h1 : p.num ≤ 1000000000000000000) (hpre : p.pre = uS ∨ p.pre = qS ∨ p.pre = ⟨#[]⟩) :
    Calls Tryz.prog 72 #[.agg #[.string p.pre, .int .i64 p.num, .int .i64 p.plus]] w (GivesF (plC p) (plV p) (plE p) w) := by
  obtain ⟨pre, num, plus⟩ := p
  simp only at h0 h1 hpre
  by_cases hu : pre = uS
  · have e1 : plC ⟨pre, num, plus⟩ = 0 := by simp [plC, hu]
    have e2 : plV ⟨pre, num, plus⟩ = varV num plus := by simp [plV, hu]
    have e3 : plE ⟨pre, num, plus⟩ = varE num plus := by simp [plE, hu]
    rw [e1, e2, e3]
    subst hu
    go_enter Tryz.func72, Tryz.ntmps72
    go_wp2_with fail
    refine (var_fresh num plus _).mono ?_
    rintro e w1 ⟨A, cap, rfl, hv, hb, hfr⟩
    obtain ⟨hc, hf⟩ := bcell hb
    have hsz := hb.size
    simp only [World.size_alloc] at hsz
    have g1 : w.heap.size + 1 < w1.heap.size := by omega
    have g0 : w.heap.size < w1.heap.size := by omega
    have c0 := hc (w.heap.size + 1) 0 (by simp)
    have c1 := hc (w.heap.size + 1) 1 (by simp)
    have HV := Lib.hid (And.intro hv hb)
    clear hv hb
    go_wp2_with fail
    refine bodyPost_ret (v := .tuple #[.agg #[.int .i64 0, .slice A _ cap], .int .i64 (varE num plus)]) (by simp [results, Tryz.results72, go_sem, hc]) rfl ⟨A, cap, rfl, va2 _ _ _ _ HV.out.1 hfr (by simp), ?_, fun b off h e => by have := hfr b off h e; simp only [World.size_alloc] at this; omega⟩
    exact ((below2 HV.out.2).setCell (by simp) _).setCell (by simp) _
  · by_cases hq : pre = qS
    · have e1 : plC ⟨pre, num, plus⟩ = 0 := by simp [plC, hq]
      have e2 : plV ⟨pre, num, plus⟩ = varV (-1 - num) plus := by subst hq; simp [plV]
      have e3 : plE ⟨pre, num, plus⟩ = varE (-1 - num) plus := by subst hq; simp [plE]
      rw [e1, e2, e3]
      subst hq
      clear hu
      go_enter Tryz.func72, Tryz.ntmps72
      go_wp2_with fail
      refine (var_fresh (-1 - num) plus _).mono ?_
      rintro e w1 ⟨A, cap, rfl, hv, hb, hfr⟩
      obtain ⟨hc, hf⟩ := bcell hb
      have hsz := hb.size
      simp only [World.size_alloc] at hsz
      have g1 : w.heap.size + 1 < w1.heap.size := by omega
      have g0 : w.heap.size < w1.heap.size := by omega
      have c0 := hc (w.heap.size + 1) 0 (by simp)
      have c1 := hc (w.heap.size + 1) 1 (by simp)
      have HV := Lib.hid (And.intro hv hb)
      clear hv hb
      go_wp2_with fail
      refine bodyPost_ret (v := .tuple #[.agg #[.int .i64 0, .slice A _ cap], .int .i64 (varE (-1 - num) plus)]) (by simp [results, Tryz.results72, go_sem, hc]) rfl ⟨A, cap, rfl, va2 _ _ _ _ HV.out.1 hfr (by simp), ?_, fun b off h e => by have := hfr b off h e; simp only [World.size_alloc] at this; omega⟩
      exact ((below2 HV.out.2).setCell (by simp) _).setCell (by simp) _
    · have e1 : plC ⟨pre, num, plus⟩ = ofC num := by simp [plC, hu, hq]
      have e2 : plV ⟨pre, num, plus⟩ = [] := by simp [plV, hu, hq]
      have e3 : plE ⟨pre, num, plus⟩ = ofE num := by simp [plE, hu, hq]
      rw [e1, e2, e3]
      have he : pre = ⟨#[]⟩ := hpre.resolve_left hu |>.resolve_left hq
      subst he
      clear e1 e2 e3 hu hq hpre
      go_enter Tryz.func72, Tryz.ntmps72
      go_wp2_with fail
      refine (of_any num _).mono ?_
      rintro e w1 ⟨A, cap, rfl, hv, hb⟩
      have hfr : ∀ b off, 0 < ([] : List (Int × Int)).length → A = some ⟨b, off, none⟩ → ((w.alloc (.cells #[.string ⟨#[]⟩, .int .i64 num, .int .i64 plus] 105)).alloc (.cells #[.int .i64 0, .slice none 0 0] 24)).heap.size ≤ b := fun _ _ h => absurd h (by simp)
      obtain ⟨hc, hf⟩ := bcell hb
      have hsz := hb.size
      simp only [World.size_alloc] at hsz
      have g1 : w.heap.size + 1 < w1.heap.size := by omega
      have g0 : w.heap.size < w1.heap.size := by omega
      have c0 := hc (w.heap.size + 1) 0 (by simp)
      have c1 := hc (w.heap.size + 1) 1 (by simp)
      have HV := Lib.hid (And.intro hv hb)
      clear hv hb
      go_wp2_with fail
      refine bodyPost_ret (v := .tuple #[.agg #[.int .i64 (ofC num), .slice A _ cap], .int .i64 (ofE num)]) (by simp [results, Tryz.results72, go_sem, hc]) rfl ⟨A, cap, rfl, va2 _ _ _ _ HV.out.1 hfr (by simp), ?_, fun b off h e => by have := hfr b off h e; simp only [World.size_alloc] at this; omega⟩
      exact ((below2 HV.out.2).setCell (by simp) _).setCell (by simp) _
end Go.Proofs.YtipnabbdhmapkaaGreatDoor
