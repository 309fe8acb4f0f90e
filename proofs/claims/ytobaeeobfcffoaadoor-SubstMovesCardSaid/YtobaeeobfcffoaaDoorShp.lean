/- Shift of the program. -/
import Derived.Test.YtobaeeobfcffoaaDoorSbu
namespace Go.Proofs.YtobaeeobfcffoaaDoor
open Go.RowKit
theorem enters_shifter1 (a : Array Value) (w : World) : (callFunc 56 a).run Tryd.prog w = .ok (.enter 56 a) w := by
  simp [go_sem]
set_option maxRecDepth 100000 in
theorem shifter_any (b f : Int) (w : World) : Calls Tryd.prog 30 #[.int .i64 b, .int .i64 f] w fun e w' => e = .returned (.func (.func 56) #[] #[.pointer (some ⟨w.heap.size + 1, 0, none⟩), .pointer (some ⟨w.heap.size, 0, none⟩)]) ∧ w' = (w.alloc (.cells #[.int .i64 b] 3)).alloc (.cells #[.int .i64 f] 3) := by
  have hmf : ∀ (fn : Fn) (first cap : Array Value) (w : World), (Instr.makeFunc fn first cap).run Tryd.prog w = .ok (.func fn first cap) w := fun _ _ _ _ => rfl
  go_enter Tryd.func30, Tryd.ntmps30
  go_wp2
  go_ret
  exact ⟨rfl, rfl⟩
/-- A variable's index is small. -/
def Qv (t : Tm) (_ : Nat) : Prop := match t with
  | .mk k i _ _ _ => k = 0 → 0 ≤ i ∧ i ≤ 1000000000
def shE (by_ fr : Int) (t : Tm) : Int := if fr < 0 ∨ by_ < -65536 ∨ 65536 < by_ then 2 else errO (cpT (shR by_ fr) t 0)
def shO (by_ fr : Int) (t : Tm) : Tm := if fr < 0 ∨ by_ < -65536 ∨ 65536 < by_ then nilT else resO (cpT (shR by_ fr) t 0)
/-- build with the closure of shifter. -/
theorem shbuild_any {W : World} {S0 : Nat → Prop} {pf pg : Nat} {fr by_ : Int} (hB : ∀ q, S0 q → q < W.heap.size) (hg : W.cell? ⟨pf, 0, none⟩ = some (.int .i64 fr)) (hh : W.cell? ⟨pg, 0, none⟩ = some (.int .i64 by_)) (hfr : 0 ≤ fr ∧ fr ≤ 9223372036854775807) (hby : -10000000000 ≤ by_ ∧ by_ ≤ 10000000000) (t : Tm) (hsz : szT t ≤ 1000000) (hq : AllT Qv t 0)
    {k i : Int} {nm : ByteArray} {AL : Option Addr} {nl cl : Nat} {AK : Option Addr} {nk ck : Nat} (htm : TmP W S0 t (.agg #[.int .i64 k, .int .i64 i, .string nm, .slice AL nl cl, .slice AK nk ck])) :
    Calls Tryd.prog 29 #[.agg #[.int .i64 k, .int .i64 i, .string nm, .slice AL nl cl, .slice AK nk ck], .func (.func 56) #[] #[.pointer (some ⟨pf, 0, none⟩), .pointer (some ⟨pg, 0, none⟩)]] W (GivesP (errO (cpT (shR by_ fr) t 0)) (resO (cpT (shR by_ fr) t 0)) (fun q => (S0 q ∨ q = pf ∨ q = pg) ∨ W.heap.size ≤ q) W) := by
  have h1 := World.block_lt_of_cell? W _ hg
  have h2 := World.block_lt_of_cell? W _ hh
  have h1 : pf < W.heap.size := h1
  have h2 : pg < W.heap.size := h2
  have hO : ∀ q, (S0 q ∨ q = pf ∨ q = pg) → q < W.heap.size := fun q h => by rcases h with h | rfl | rfl; exact hB q h; exact h1; exact h2
  refine sbuild_any (Old := fun q => S0 q ∨ q = pf ∨ q = pg) hO (Q := Qv) (R := shR by_ fr) ?_ enters_shifter1 t hsz hq (TmP.mono (fun q h _ => .inl h) _ _ htm)
  intro k i nm AL cl ls AK ck ks d n f e w hq hd ht hi hn
  exact shifter1_any (bldS W _ hO) (pf := pf) (pg := pg) (fr := fr) (by_ := by_) (fun {d n f e w} h => ⟨(World.cell?_of_block (w := W) (a := ⟨pf, 0, none⟩) (h.2.2.2.2.2 pf (.inr (.inl rfl)))).trans hg, (World.cell?_of_block (w := W) (a := ⟨pg, 0, none⟩) (h.2.2.2.2.2 pg (.inr (.inr rfl)))).trans hh⟩) (d := d) hi hn k i nm AL ls.length cl AK ks.length ck ls ks (fun e => hq.here e) hd hfr hby

set_option maxRecDepth 100000 in
set_option maxHeartbeats 2000000 in
theorem sshiftS_any (t : Tm) (v : Value) (by_ fr : Int) (S0 : Nat → Prop) (w : World) (hv : TmP w S0 t v) (hB : ∀ q, S0 q → q < w.heap.size) (hsz : szT t ≤ 1000000) (hq : AllT Qv t 0) (hfr : -9223372036854775808 ≤ fr ∧ fr ≤ 9223372036854775807) :
    Calls Tryd.prog 12 #[v, .int .i64 by_, .int .i64 fr] w (GivesP (shE by_ fr t) (shO by_ fr t) (fun q => S0 q ∨ w.heap.size ≤ q) w) := by
  have hv0 := TmP.open_ hv
  obtain ⟨k, i, nm, AL, nl, cl, AK, nk, ck, rfl, _⟩ := hv0
  have HV := Lib.hid hv
  have HQ := Lib.hid hq
  clear hv hq
  by_cases hbad : fr < 0 ∨ by_ < -65536 ∨ 65536 < by_
  · have e1 : shE by_ fr t = 2 := by unfold shE; rw [if_pos hbad]
    have e2 : shO by_ fr t = nilT := by unfold shO; rw [if_pos hbad]
    rw [e1, e2]
    clear e1 e2
    have hend : ∀ w', Below w.heap.size w w' → GivesP 2 nilT (fun q => S0 q ∨ w.heap.size ≤ q) w (.returned (.tuple #[zeroV, .int .i64 2])) w' := fun w' hb => ⟨hb, _, _, _, _, _, _, _, _, _, rfl, tmP_vr' w' _ 0 none 0 none 0⟩
    have HEND := Lib.hid hend
    clear hend
    by_cases h1 : fr < 0
    case' pos =>
      have d1 : decide (fr < 0) = true := decide_eq_true h1
    case' neg =>
      have d1 : decide (fr < 0) = false := decide_eq_false h1
      by_cases h2 : by_ < -65536
      case' pos =>
        have d2 : decide (by_ < -65536) = true := decide_eq_true h2
      case' neg =>
        have d2 : decide (by_ < -65536) = false := decide_eq_false h2
        have d3 : decide (65536 < by_) = true := by rw [decide_eq_true_eq]; omega
    all_goals
      go_enter Tryd.func12, Tryd.ntmps12
      go_wp2
      exact bodyPost_ret (v := .tuple #[zeroV, .int .i64 2]) (by simp [results, Tryd.results12, go_sem, zeroV]) rfl (HEND.out _ (((Below.refl _ _).alloc (Nat.le_refl _) _).alloc (by simp) _))
  · have e1 : shE by_ fr t = errO (cpT (shR by_ fr) t 0) := by unfold shE; rw [if_neg hbad]
    have e2 : shO by_ fr t = resO (cpT (shR by_ fr) t 0) := by unfold shO; rw [if_neg hbad]
    rw [e1, e2]
    have d1 : decide (fr < 0) = false := by rw [decide_eq_false_iff_not]; omega
    have d2 : decide (by_ < -65536) = false := by rw [decide_eq_false_iff_not]; omega
    have d3 : decide (65536 < by_) = false := by rw [decide_eq_false_iff_not]; omega
    have b0 := B5.new w (.int .i64 k) (.int .i64 i) (.string nm) (.slice AL nl cl) (.slice AK nk ck)
    have hb1 : Below w.heap.size w (w.alloc (.cells #[.int .i64 k, .int .i64 i, .string nm, .slice AL nl cl, .slice AK nk ck] 25)) := (Below.refl _ _).alloc (Nat.le_refl _) _
    have b1 := B5.new (w.alloc (.cells #[.int .i64 k, .int .i64 i, .string nm, .slice AL nl cl, .slice AK nk ck] 25)) (.int .i64 0) (.int .i64 0) (.string ⟨#[]⟩) (.slice none 0 0) (.slice none 0 0)
    simp only [World.size_alloc] at b1
    have b0' := b0.next ((Below.refl _ _).alloc (Nat.le_refl _) (.cells #[.int .i64 0, .int .i64 0, .string ⟨#[]⟩, .slice none 0 0, .slice none 0 0] 25))
    have h07 : Below ((w.alloc (.cells #[.int .i64 k, .int .i64 i, .string nm, .slice AL nl cl, .slice AK nk ck] 25)).alloc (.cells #[.int .i64 0, .int .i64 0, .string ⟨#[]⟩, .slice none 0 0, .slice none 0 0] 25)).heap.size ((w.alloc (.cells #[.int .i64 k, .int .i64 i, .string nm, .slice AL nl cl, .slice AK nk ck] 25)).alloc (.cells #[.int .i64 0, .int .i64 0, .string ⟨#[]⟩, .slice none 0 0, .slice none 0 0] 25)) ((((w.alloc (.cells #[.int .i64 k, .int .i64 i, .string nm, .slice AL nl cl, .slice AK nk ck] 25)).alloc (.cells #[.int .i64 0, .int .i64 0, .string ⟨#[]⟩, .slice none 0 0, .slice none 0 0] 25)).drew.alloc (.cells #[.int .i64 by_] 3)).alloc (.cells #[.int .i64 fr] 3)) := (((Below.refl _ ((w.alloc (.cells #[.int .i64 k, .int .i64 i, .string nm, .slice AL nl cl, .slice AK nk ck] 25)).alloc (.cells #[.int .i64 0, .int .i64 0, .string ⟨#[]⟩, .slice none 0 0, .slice none 0 0] 25))).drew).alloc (Nat.le_refl _) _).alloc (by show _ ≤ (World.alloc _ _).heap.size; simp) _
    have hw0 : Below w.heap.size w ((w.alloc (.cells #[.int .i64 k, .int .i64 i, .string nm, .slice AL nl cl, .slice AK nk ck] 25)).alloc (.cells #[.int .i64 0, .int .i64 0, .string ⟨#[]⟩, .slice none 0 0, .slice none 0 0] 25)) := hb1.alloc (by simp) _
    have h7 : Below w.heap.size w ((((w.alloc (.cells #[.int .i64 k, .int .i64 i, .string nm, .slice AL nl cl, .slice AK nk ck] 25)).alloc (.cells #[.int .i64 0, .int .i64 0, .string ⟨#[]⟩, .slice none 0 0, .slice none 0 0] 25)).drew.alloc (.cells #[.int .i64 by_] 3)).alloc (.cells #[.int .i64 fr] 3)) := hw0.trans (h07.mono (by simp; omega))
    have b0'' := b0'.next h07
    have b1'' := b1.next h07
    have hbu := shbuild_any (W := ((((w.alloc (.cells #[.int .i64 k, .int .i64 i, .string nm, .slice AL nl cl, .slice AK nk ck] 25)).alloc (.cells #[.int .i64 0, .int .i64 0, .string ⟨#[]⟩, .slice none 0 0, .slice none 0 0] 25)).drew.alloc (.cells #[.int .i64 by_] 3)).alloc (.cells #[.int .i64 fr] 3))) (S0 := S0) (pf := w.heap.size + 1 + 1 + 1) (pg := w.heap.size + 1 + 1) (fr := fr) (by_ := by_) (fun q h => by have := h7.size; have := hB q h; omega) (by go_simp) (by go_simp) (by omega) (by omega) t hsz HQ.out (TmP.keep (fun p hp => h7.cell (hB _ hp)) _ _ HV.out)
    have HS := Lib.hid (show ((w.alloc (.cells #[.int .i64 k, .int .i64 i, .string nm, .slice AL nl cl, .slice AK nk ck] 25)).alloc (.cells #[.int .i64 0, .int .i64 0, .string ⟨#[]⟩, .slice none 0 0, .slice none 0 0] 25)).cell? ⟨w.heap.size, 0, none⟩ = some (.int .i64 k) ∧ ((w.alloc (.cells #[.int .i64 k, .int .i64 i, .string nm, .slice AL nl cl, .slice AK nk ck] 25)).alloc (.cells #[.int .i64 0, .int .i64 0, .string ⟨#[]⟩, .slice none 0 0, .slice none 0 0] 25)).cell? ⟨w.heap.size, 1, none⟩ = some (.int .i64 i) ∧ ((w.alloc (.cells #[.int .i64 k, .int .i64 i, .string nm, .slice AL nl cl, .slice AK nk ck] 25)).alloc (.cells #[.int .i64 0, .int .i64 0, .string ⟨#[]⟩, .slice none 0 0, .slice none 0 0] 25)).cell? ⟨w.heap.size, 2, none⟩ = some (.string nm) ∧ ((w.alloc (.cells #[.int .i64 k, .int .i64 i, .string nm, .slice AL nl cl, .slice AK nk ck] 25)).alloc (.cells #[.int .i64 0, .int .i64 0, .string ⟨#[]⟩, .slice none 0 0, .slice none 0 0] 25)).cell? ⟨w.heap.size, 3, none⟩ = some (.slice AL nl cl) ∧ ((w.alloc (.cells #[.int .i64 k, .int .i64 i, .string nm, .slice AL nl cl, .slice AK nk ck] 25)).alloc (.cells #[.int .i64 0, .int .i64 0, .string ⟨#[]⟩, .slice none 0 0, .slice none 0 0] 25)).cell? ⟨w.heap.size, 4, none⟩ = some (.slice AK nk ck) from ⟨b0'.x0, b0'.x1, b0'.x2, b0'.x3, b0'.x4⟩)
    have HSD := Lib.hid (show ((w.alloc (.cells #[.int .i64 k, .int .i64 i, .string nm, .slice AL nl cl, .slice AK nk ck] 25)).alloc (.cells #[.int .i64 0, .int .i64 0, .string ⟨#[]⟩, .slice none 0 0, .slice none 0 0] 25)).drew.cell? ⟨w.heap.size, 0, none⟩ = some (.int .i64 k) ∧ ((w.alloc (.cells #[.int .i64 k, .int .i64 i, .string nm, .slice AL nl cl, .slice AK nk ck] 25)).alloc (.cells #[.int .i64 0, .int .i64 0, .string ⟨#[]⟩, .slice none 0 0, .slice none 0 0] 25)).drew.cell? ⟨w.heap.size, 1, none⟩ = some (.int .i64 i) ∧ ((w.alloc (.cells #[.int .i64 k, .int .i64 i, .string nm, .slice AL nl cl, .slice AK nk ck] 25)).alloc (.cells #[.int .i64 0, .int .i64 0, .string ⟨#[]⟩, .slice none 0 0, .slice none 0 0] 25)).drew.cell? ⟨w.heap.size, 2, none⟩ = some (.string nm) ∧ ((w.alloc (.cells #[.int .i64 k, .int .i64 i, .string nm, .slice AL nl cl, .slice AK nk ck] 25)).alloc (.cells #[.int .i64 0, .int .i64 0, .string ⟨#[]⟩, .slice none 0 0, .slice none 0 0] 25)).drew.cell? ⟨w.heap.size, 3, none⟩ = some (.slice AL nl cl) ∧ ((w.alloc (.cells #[.int .i64 k, .int .i64 i, .string nm, .slice AL nl cl, .slice AK nk ck] 25)).alloc (.cells #[.int .i64 0, .int .i64 0, .string ⟨#[]⟩, .slice none 0 0, .slice none 0 0] 25)).drew.cell? ⟨w.heap.size, 4, none⟩ = some (.slice AK nk ck) from ⟨b0'.x0, b0'.x1, b0'.x2, b0'.x3, b0'.x4⟩)
    have HS7 := Lib.hid (show ((((w.alloc (.cells #[.int .i64 k, .int .i64 i, .string nm, .slice AL nl cl, .slice AK nk ck] 25)).alloc (.cells #[.int .i64 0, .int .i64 0, .string ⟨#[]⟩, .slice none 0 0, .slice none 0 0] 25)).drew.alloc (.cells #[.int .i64 by_] 3)).alloc (.cells #[.int .i64 fr] 3)).cell? ⟨w.heap.size, 0, none⟩ = some (.int .i64 k) ∧ ((((w.alloc (.cells #[.int .i64 k, .int .i64 i, .string nm, .slice AL nl cl, .slice AK nk ck] 25)).alloc (.cells #[.int .i64 0, .int .i64 0, .string ⟨#[]⟩, .slice none 0 0, .slice none 0 0] 25)).drew.alloc (.cells #[.int .i64 by_] 3)).alloc (.cells #[.int .i64 fr] 3)).cell? ⟨w.heap.size, 1, none⟩ = some (.int .i64 i) ∧ ((((w.alloc (.cells #[.int .i64 k, .int .i64 i, .string nm, .slice AL nl cl, .slice AK nk ck] 25)).alloc (.cells #[.int .i64 0, .int .i64 0, .string ⟨#[]⟩, .slice none 0 0, .slice none 0 0] 25)).drew.alloc (.cells #[.int .i64 by_] 3)).alloc (.cells #[.int .i64 fr] 3)).cell? ⟨w.heap.size, 2, none⟩ = some (.string nm) ∧ ((((w.alloc (.cells #[.int .i64 k, .int .i64 i, .string nm, .slice AL nl cl, .slice AK nk ck] 25)).alloc (.cells #[.int .i64 0, .int .i64 0, .string ⟨#[]⟩, .slice none 0 0, .slice none 0 0] 25)).drew.alloc (.cells #[.int .i64 by_] 3)).alloc (.cells #[.int .i64 fr] 3)).cell? ⟨w.heap.size, 3, none⟩ = some (.slice AL nl cl) ∧ ((((w.alloc (.cells #[.int .i64 k, .int .i64 i, .string nm, .slice AL nl cl, .slice AK nk ck] 25)).alloc (.cells #[.int .i64 0, .int .i64 0, .string ⟨#[]⟩, .slice none 0 0, .slice none 0 0] 25)).drew.alloc (.cells #[.int .i64 by_] 3)).alloc (.cells #[.int .i64 fr] 3)).cell? ⟨w.heap.size, 4, none⟩ = some (.slice AK nk ck) from ⟨b0''.x0, b0''.x1, b0''.x2, b0''.x3, b0''.x4⟩)
    have HBU := Lib.hid hbu
    have HAF := Lib.hid (show ∀ e w9, GivesP (errO (cpT (shR by_ fr) t 0)) (resO (cpT (shR by_ fr) t 0)) (fun q => (S0 q ∨ q = w.heap.size + 1 + 1 + 1 ∨ q = w.heap.size + 1 + 1) ∨ ((((w.alloc (.cells #[.int .i64 k, .int .i64 i, .string nm, .slice AL nl cl, .slice AK nk ck] 25)).alloc (.cells #[.int .i64 0, .int .i64 0, .string ⟨#[]⟩, .slice none 0 0, .slice none 0 0] 25)).drew.alloc (.cells #[.int .i64 by_] 3)).alloc (.cells #[.int .i64 fr] 3)).heap.size ≤ q) ((((w.alloc (.cells #[.int .i64 k, .int .i64 i, .string nm, .slice AL nl cl, .slice AK nk ck] 25)).alloc (.cells #[.int .i64 0, .int .i64 0, .string ⟨#[]⟩, .slice none 0 0, .slice none 0 0] 25)).drew.alloc (.cells #[.int .i64 by_] 3)).alloc (.cells #[.int .i64 fr] 3)) e w9 → ∃ k9 i9 n9 AL9 nl9 cl9 AK9 nk9 ck9, e = .returned (.tuple #[(.agg #[.int .i64 k9, .int .i64 i9, .string n9, .slice AL9 nl9 cl9, .slice AK9 nk9 ck9]), .int .i64 (errO (cpT (shR by_ fr) t 0))]) ∧ B5 (w.heap.size + 1) (.int .i64 0) (.int .i64 0) (.string ⟨#[]⟩) (.slice none 0 0) (.slice none 0 0) w9 ∧ Hid (w9.cell? ⟨w.heap.size, 0, none⟩ = some (.int .i64 k) ∧ w9.cell? ⟨w.heap.size, 1, none⟩ = some (.int .i64 i) ∧ w9.cell? ⟨w.heap.size, 2, none⟩ = some (.string nm) ∧ w9.cell? ⟨w.heap.size, 3, none⟩ = some (.slice AL nl cl) ∧ w9.cell? ⟨w.heap.size, 4, none⟩ = some (.slice AK nk ck)) ∧ Hid ((((((w9.setCell ⟨w.heap.size + 1, 0, none⟩ (.int .i64 k9)).setCell ⟨w.heap.size + 1, 1, none⟩ (.int .i64 i9)).setCell ⟨w.heap.size + 1, 2, none⟩ (.string n9)).setCell ⟨w.heap.size + 1, 3, none⟩ (.slice AL9 nl9 cl9)).setCell ⟨w.heap.size + 1, 4, none⟩ (.slice AK9 nk9 ck9)).cell? ⟨w.heap.size, 0, none⟩ = some (.int .i64 k) ∧ (((((w9.setCell ⟨w.heap.size + 1, 0, none⟩ (.int .i64 k9)).setCell ⟨w.heap.size + 1, 1, none⟩ (.int .i64 i9)).setCell ⟨w.heap.size + 1, 2, none⟩ (.string n9)).setCell ⟨w.heap.size + 1, 3, none⟩ (.slice AL9 nl9 cl9)).setCell ⟨w.heap.size + 1, 4, none⟩ (.slice AK9 nk9 ck9)).cell? ⟨w.heap.size, 1, none⟩ = some (.int .i64 i) ∧ (((((w9.setCell ⟨w.heap.size + 1, 0, none⟩ (.int .i64 k9)).setCell ⟨w.heap.size + 1, 1, none⟩ (.int .i64 i9)).setCell ⟨w.heap.size + 1, 2, none⟩ (.string n9)).setCell ⟨w.heap.size + 1, 3, none⟩ (.slice AL9 nl9 cl9)).setCell ⟨w.heap.size + 1, 4, none⟩ (.slice AK9 nk9 ck9)).cell? ⟨w.heap.size, 2, none⟩ = some (.string nm) ∧ (((((w9.setCell ⟨w.heap.size + 1, 0, none⟩ (.int .i64 k9)).setCell ⟨w.heap.size + 1, 1, none⟩ (.int .i64 i9)).setCell ⟨w.heap.size + 1, 2, none⟩ (.string n9)).setCell ⟨w.heap.size + 1, 3, none⟩ (.slice AL9 nl9 cl9)).setCell ⟨w.heap.size + 1, 4, none⟩ (.slice AK9 nk9 ck9)).cell? ⟨w.heap.size, 3, none⟩ = some (.slice AL nl cl) ∧ (((((w9.setCell ⟨w.heap.size + 1, 0, none⟩ (.int .i64 k9)).setCell ⟨w.heap.size + 1, 1, none⟩ (.int .i64 i9)).setCell ⟨w.heap.size + 1, 2, none⟩ (.string n9)).setCell ⟨w.heap.size + 1, 3, none⟩ (.slice AL9 nl9 cl9)).setCell ⟨w.heap.size + 1, 4, none⟩ (.slice AK9 nk9 ck9)).cell? ⟨w.heap.size, 4, none⟩ = some (.slice AK nk ck)) ∧ Hid (Below w.heap.size w (((((w9.setCell ⟨w.heap.size + 1, 0, none⟩ (.int .i64 k9)).setCell ⟨w.heap.size + 1, 1, none⟩ (.int .i64 i9)).setCell ⟨w.heap.size + 1, 2, none⟩ (.string n9)).setCell ⟨w.heap.size + 1, 3, none⟩ (.slice AL9 nl9 cl9)).setCell ⟨w.heap.size + 1, 4, none⟩ (.slice AK9 nk9 ck9)) ∧ TmP (((((w9.setCell ⟨w.heap.size + 1, 0, none⟩ (.int .i64 k9)).setCell ⟨w.heap.size + 1, 1, none⟩ (.int .i64 i9)).setCell ⟨w.heap.size + 1, 2, none⟩ (.string n9)).setCell ⟨w.heap.size + 1, 3, none⟩ (.slice AL9 nl9 cl9)).setCell ⟨w.heap.size + 1, 4, none⟩ (.slice AK9 nk9 ck9)) (fun q => S0 q ∨ w.heap.size ≤ q) (resO (cpT (shR by_ fr) t 0)) (.agg #[.int .i64 k9, .int .i64 i9, .string n9, .slice AL9 nl9 cl9, .slice AK9 nk9 ck9]) ∧ B5 (w.heap.size + 1) (.int .i64 k9) (.int .i64 i9) (.string n9) (.slice AL9 nl9 cl9) (.slice AK9 nk9 ck9) (((((w9.setCell ⟨w.heap.size + 1, 0, none⟩ (.int .i64 k9)).setCell ⟨w.heap.size + 1, 1, none⟩ (.int .i64 i9)).setCell ⟨w.heap.size + 1, 2, none⟩ (.string n9)).setCell ⟨w.heap.size + 1, 3, none⟩ (.slice AL9 nl9 cl9)).setCell ⟨w.heap.size + 1, 4, none⟩ (.slice AK9 nk9 ck9))) from fun e w9 h9 => by
      obtain ⟨hb9, k9, i9, n9, AL9, nl9, cl9, AK9, nk9, ck9, rfl, ht9⟩ := h9
      have c0 := b0''.next hb9
      have c1 := b1''.next hb9
      have hfar : ∀ p : Addr, p.block ≠ w.heap.size + 1 → (((((w9.setCell ⟨w.heap.size + 1, 0, none⟩ (.int .i64 k9)).setCell ⟨w.heap.size + 1, 1, none⟩ (.int .i64 i9)).setCell ⟨w.heap.size + 1, 2, none⟩ (.string n9)).setCell ⟨w.heap.size + 1, 3, none⟩ (.slice AL9 nl9 cl9)).setCell ⟨w.heap.size + 1, 4, none⟩ (.slice AK9 nk9 ck9)).cell? p = w9.cell? p := fun p hp => set5_far (o := 0) hp
      have hw9 : Below w.heap.size w w9 := h7.trans (hb9.mono (by have := h7.size; omega))
      have hs7 : ((((w.alloc (.cells #[.int .i64 k, .int .i64 i, .string nm, .slice AL nl cl, .slice AK nk ck] 25)).alloc (.cells #[.int .i64 0, .int .i64 0, .string ⟨#[]⟩, .slice none 0 0, .slice none 0 0] 25)).drew.alloc (.cells #[.int .i64 by_] 3)).alloc (.cells #[.int .i64 fr] 3)).heap.size = w.heap.size + 1 + 1 + 1 + 1 := by show (World.alloc _ _).heap.size = _; simp [World.drew]
      have htv : TmP (((((w9.setCell ⟨w.heap.size + 1, 0, none⟩ (.int .i64 k9)).setCell ⟨w.heap.size + 1, 1, none⟩ (.int .i64 i9)).setCell ⟨w.heap.size + 1, 2, none⟩ (.string n9)).setCell ⟨w.heap.size + 1, 3, none⟩ (.slice AL9 nl9 cl9)).setCell ⟨w.heap.size + 1, 4, none⟩ (.slice AK9 nk9 ck9)) (fun q => S0 q ∨ w.heap.size ≤ q) (resO (cpT (shR by_ fr) t 0)) (.agg #[.int .i64 k9, .int .i64 i9, .string n9, .slice AL9 nl9 cl9, .slice AK9 nk9 ck9]) := TmP.mono (fun q h _ => by
        rw [hs7] at h
        rcases h with (h | h | h) | h
        · exact .inl h
        · exact .inr (by omega)
        · exact .inr (by omega)
        · exact .inr (by omega)) _ _ (TmP.keep (fun p hp => hfar p (by
        intro e
        rw [e] at hp
        rw [hs7] at hp
        rcases hp with (h | h | h) | h
        · have := hB _ h; omega
        · omega
        · omega
        · omega)) _ _ ht9)
      exact ⟨k9, i9, n9, AL9, nl9, cl9, AK9, nk9, ck9, rfl, c1, ⟨c0.x0, c0.x1, c0.x2, c0.x3, c0.x4⟩, ⟨(hfar _ (by show w.heap.size ≠ _; omega)).trans c0.x0, (hfar _ (by show w.heap.size ≠ _; omega)).trans c0.x1, (hfar _ (by show w.heap.size ≠ _; omega)).trans c0.x2, (hfar _ (by show w.heap.size ≠ _; omega)).trans c0.x3, (hfar _ (by show w.heap.size ≠ _; omega)).trans c0.x4⟩, below_set5 hw9 (by omega) 0 _ _ _ _ _, htv, c1.put _ _ _ _ _⟩)
    clear b0 hb1 b1 b0' h07 hw0 h7 b0'' b1'' hbu
    go_enter Tryd.func12, Tryd.ntmps12
    go_wp2_with fail
    go_region_held3 (fun w' => w'.cell? ⟨w.heap.size, 0, none⟩ = some (.int .i64 k) ∧ w'.cell? ⟨w.heap.size, 1, none⟩ = some (.int .i64 i) ∧ w'.cell? ⟨w.heap.size, 2, none⟩ = some (.string nm) ∧ w'.cell? ⟨w.heap.size, 3, none⟩ = some (.slice AL nl cl) ∧ w'.cell? ⟨w.heap.size, 4, none⟩ = some (.slice AK nk ck))
      (first | with_reducible exact HSD.out | with_reducible exact HS.out | with_reducible exact HS7.out | with_reducible exact HS9.out | with_reducible exact HSE.out | exact HS7.out)
      (first
        | (go_at_call 30; refine (shifter_any by_ fr _).mono ?_; rintro e w7 ⟨rfl, rfl⟩)
        | (go_at_call 29; refine HBU.out.mono ?_; intro e w9 h9; obtain ⟨k9, i9, n9, AL9, nl9, cl9, AK9, nk9, ck9, rfl, ⟨y0, y1, y2, y3, y4, f0, f1, f2, f3, f4⟩, HS9, HSE, HR9⟩ := HAF.out _ _ h9; clear h9))
    all_goals
      generalize (((((w9.setCell ⟨w.heap.size + 1, 0, none⟩ (.int .i64 k9)).setCell ⟨w.heap.size + 1, 1, none⟩ (.int .i64 i9)).setCell ⟨w.heap.size + 1, 2, none⟩ (.string n9)).setCell ⟨w.heap.size + 1, 3, none⟩ (.slice AL9 nl9 cl9)).setCell ⟨w.heap.size + 1, 4, none⟩ (.slice AK9 nk9 ck9)) = w8 at HR9 ⊢
      clear y0 y1 y2 y3 y4 f0 f1 f2 f3 f4
      obtain ⟨y0, y1, y2, y3, y4, f0, f1, f2, f3, f4⟩ := HR9.out.2.2
      go_wp2_with fail
      exact bodyPost_ret (v := .tuple #[.agg #[.int .i64 k9, .int .i64 i9, .string n9, .slice AL9 nl9 cl9, .slice AK9 nk9 ck9], .int .i64 (errO (cpT (shR by_ fr) t 0))]) (by simp [results, Tryd.results12, go_sem, y0, y1, y2, y3, y4]) rfl ⟨HR9.out.1, _, _, _, _, _, _, _, _, _, rfl, HR9.out.2.1⟩
theorem sshift_any (t : Tm) (v : Value) (by_ fr : Int) (B : Nat) (w : World) (hv : TmV w B t v) (hB : B ≤ w.heap.size) (hsz : szT t ≤ 1000000) (hq : AllT Qv t 0) (hfr : -9223372036854775808 ≤ fr ∧ fr ≤ 9223372036854775807) :
    Calls Tryd.prog 12 #[v, .int .i64 by_, .int .i64 fr] w (GivesP (shE by_ fr t) (shO by_ fr t) (fun q => q < B ∨ w.heap.size ≤ q) w) :=
  sshiftS_any t v by_ fr (· < B) w (TmP.of t v hv) (fun _ h => Nat.lt_of_lt_of_le h hB) hsz hq hfr
end Go.Proofs.YtobaeeobfcffoaaDoor
