/- The reference's walk: its cells, fail, variable; what its shift makes of a term. -/
import Derived.Test.YtobaeeobfcffoaaDoorShp
namespace Go.Proofs.YtobaeeobfcffoaaDoor
open Go.RowKit
/-- The reference's shift at a node. -/
def rfR (by_ fr : Int) : Tm → Nat → Option Ou
  | .mk k i nm ls ks, d => if k = 0 then some (if i < fr + d then ⟨1, 0, 0, .mk k i nm ls ks⟩ else if i + by_ < fr + d then ⟨1, 0, 24, .mk k i nm ls ks⟩ else ⟨1, 0, big (i + by_), vr (i + by_)⟩) else none
/-- A variable that may stand there: alone, and not too great. -/
def Wg (t : Tm) (d : Nat) : Prop := Wv t d ∧ match t with
  | .mk k i _ _ _ => k = 0 → i < 65536 + d
mutual
theorem AllT.mono {Q Q' : Tm → Nat → Prop} (h : ∀ t d, Q t d → Q' t d) : ∀ (t : Tm) (d : Nat), AllT Q t d → AllT Q' t d
  | .mk k i nm ls ks, d, hq => by
    rw [AllT] at hq ⊢
    exact ⟨h _ _ hq.1, AllL.mono h ks k d 0 hq.2⟩
theorem AllL.mono {Q Q' : Tm → Nat → Prop} (h : ∀ t d, Q t d → Q' t d) : ∀ (ks : List Tm) (k : Int) (d j : Nat), AllL Q ks k d j → AllL Q' ks k d j
  | [], _, _, _, _ => by rw [AllL]; trivial
  | q :: r, k, d, j, hq => by
    rw [AllL] at hq ⊢
    exact ⟨AllT.mono h q _ hq.1, AllL.mono h r k d (j + 1) hq.2⟩
end
theorem rf_ag {by_ fr : Int} (hfr : 0 ≤ fr) (t : Tm) (d : Nat) (h : Wg t d) : AgO t (shR by_ fr t d) (rfR by_ (min fr 65536) t d) := by
  cases t with
  | mk k i nm ls ks =>
    by_cases hk : k = 0
    · obtain ⟨e, hi⟩ := h.1.eq hk
      have hb := h.2 hk
      obtain ⟨_, rfl, rfl, rfl⟩ : k = 0 ∧ nm = ⟨#[]⟩ ∧ ls = [] ∧ ks = [] := by unfold vr at e; simpa using e
      subst hk
      simp only [shR, rfR, if_pos]
      have hmin : (fr ≤ 65536 ∧ min fr 65536 = fr) ∨ (65536 < fr ∧ min fr 65536 = 65536) := by
        rcases Int.le_total fr 65536 with h | h
        · exact .inl ⟨h, Int.min_eq_left h⟩
        · by_cases h' : fr = 65536
          · exact .inl ⟨by omega, by rw [h']; rfl⟩
          · exact .inr ⟨by omega, Int.min_eq_right h⟩
      generalize min fr 65536 = m at *
      by_cases h1 : i < m + d
      · rw [if_pos h1, if_neg (by omega)]
        exact .left rfl
      · rw [if_neg h1]
        rw [if_pos (show True ∧ (d : Int) ≤ i ∧ fr ≤ i - d from ⟨trivial, by omega, by omega⟩)]
        by_cases h2 : i + by_ < m + d
        · rw [if_pos h2, if_pos (by omega)]
          refine .some ⟨rfl, rfl, rfl, fun e => ?_⟩
          have e : er 24 (big (i + by_)) = 0 := e
          unfold er at e
          rw [if_neg (by decide)] at e
          exact absurd e (by decide)
        · rw [if_neg h2, if_neg (by omega), er_zero]
          exact .some ⟨rfl, rfl, rfl, fun _ => rfl⟩
    · simp only [shR, rfR]
      rw [if_neg (fun e => hk e.1), if_neg hk]
      exact .none
mutual
theorem cp_n1 {R : Tm → Nat → Option Ou} (hR : ∀ t d x, R t d = some x → x.n = 1) : ∀ (t : Tm) (d : Nat), (cpT R t d).n ≤ szT t
  | .mk k i nm ls ks, d => by
    cases hr : R (.mk k i nm ls ks) d with
    | some x => rw [cpT_some hr, hR _ _ _ hr]; exact szT_pos _
    | none =>
      rw [cpT_none hr, szT]
      have := cp_n1L hR ks k d 0
      show 1 + _ ≤ 1 + _
      omega
theorem cp_n1L {R : Tm → Nat → Option Ou} (hR : ∀ t d x, R t d = some x → x.n = 1) : ∀ (ks : List Tm) (k : Int) (d j : Nat), (cpL R ks k d j).n ≤ szL ks
  | [], _, _, _ => by rw [cpL, szL]; exact Nat.le_refl _
  | q :: r, k, d, j => by
    rw [cpL, szL]
    have h1 := cp_n1 hR q (d + bbN k j)
    have h2 := cp_n1L hR r k d (j + 1)
    show _ + _ ≤ _
    omega
end
theorem shR_n1 (by_ fr : Int) : ∀ t d x, shR by_ fr t d = some x → x.n = 1 := by
  intro t d x h
  cases t with
  | mk k i nm ls ks =>
    simp only [shR] at h
    split at h
    · injection h with h; rw [← h]
    · cases h
/-- What the program's Shift gives is what the reference's walk gives. -/
theorem sh_rf {by_ fr : Int} (hfr : 0 ≤ fr) (hby : -65536 ≤ by_ ∧ by_ ≤ 65536) (t : Tm) (hq : AllT Wg t 0) (hsz : szT t ≤ 4096) : shE by_ fr t = (cpT (rfR by_ (min fr 65536)) t 0).e ∧ shO by_ fr t = if (cpT (rfR by_ (min fr 65536)) t 0).e = 0 then (cpT (rfR by_ (min fr 65536)) t 0).t else nilT := by
  have hn : ¬ (fr < 0 ∨ by_ < -65536 ∨ 65536 < by_) := by omega
  have hag : (cpT (shR by_ fr) t 0).ag (cpT (rfR by_ (min fr 65536)) t 0) := cpT_ag t 0 (AllT.mono (fun t d h => rf_ag hfr t d h) t 0 hq)
  have h1 : errO (cpT (shR by_ fr) t 0) = (cpT (shR by_ fr) t 0).e := by
    unfold errO
    rw [if_neg (by have := cp_n1 (shR_n1 by_ fr) t 0; omega)]
  unfold shE shO
  rw [if_neg hn, if_neg hn]
  unfold resO
  rw [h1, hag.2.2.1]
  refine ⟨rfl, ?_⟩
  by_cases he : (cpT (rfR by_ (min fr 65536)) t 0).e = 0
  · rw [if_pos he, if_pos he]; exact hag.2.2.2 (by rw [hag.2.2.1]; exact he)
  · rw [if_neg he, if_neg he]
/-- The walk's cells. -/
structure WkS (pw : Nat) (e n : Int) (w : World) : Prop where
  c0 : w.cell? ⟨pw, 0, none⟩ = some (.int .i64 e)
  c1 : w.cell? ⟨pw, 1, none⟩ = some (.int .i64 n)
  f0 : w.frozen? ⟨pw, 0, none⟩ = false
  f1 : w.frozen? ⟨pw, 1, none⟩ = false
/-- Only the walk's block is written. -/
def MP (pw : Nat) (_ : World) (q : Nat) : Prop := q = pw
namespace WkS
variable {pw : Nat} {e n : Int} {w w' : World}
theorem lt (h : WkS pw e n w) : pw < w.heap.size := World.block_lt_of_cell? w _ h.c0
theorem next (h : WkS pw e n w) (hb : Below w.heap.size w w') : WkS pw e n w' :=
  ⟨(hb.cell (p := ⟨pw, 0, none⟩) h.lt).trans h.c0, (hb.cell (p := ⟨pw, 1, none⟩) h.lt).trans h.c1, (hb.frozen (p := ⟨pw, 0, none⟩) h.lt).trans h.f0, (hb.frozen (p := ⟨pw, 1, none⟩) h.lt).trans h.f1⟩
theorem kp (h : WkS pw e n w) (hk : w'.heap[pw]? = w.heap[pw]?) : WkS pw e n w' :=
  ⟨(World.cell?_of_block (w := w) (a := ⟨pw, 0, none⟩) hk).trans h.c0, (World.cell?_of_block (w := w) (a := ⟨pw, 1, none⟩) hk).trans h.c1, (World.frozen?_of_block (w := w) (a := ⟨pw, 0, none⟩) hk).trans h.f0, (World.frozen?_of_block (w := w) (a := ⟨pw, 1, none⟩) hk).trans h.f1⟩
theorem setE (h : WkS pw e n w) (x : Int) : WkS pw x n (w.setCell ⟨pw, 0, none⟩ (.int .i64 x)) := by
  have h0 := h.f0
  have h1 := h.f1
  exact ⟨set_same h.c0, set_other h.c1 (by decide), by go_simp, by go_simp⟩
end WkS
theorem Kp.newP {pw : Nat} {w0 w w' : World} (h : Kp (MP pw) w0 w) (hb : Below w.heap.size w w') : Kp (MP pw) w0 w' :=
  h.trans ⟨hb.os, hb.tape, hb.output, hb.size, fun k hk _ => hb.block k hk, fun _ hk => .inl hk⟩
theorem Kp.setP {pw : Nat} {w0 w : World} (h : Kp (MP pw) w0 w) (j : Nat) (v : Value) : Kp (MP pw) w0 (w.setCell ⟨pw, j, none⟩ v) :=
  h.trans ⟨rfl, rfl, rfl, by simp [World.setCell], fun k _ hk => Below.heap_setCell _ _ _ _ (fun e => hk e), fun k hk => .inl hk⟩
theorem Kp.ownP {pw : Nat} {w0 w : World} (h : Kp (MP pw) w0 w) {b : Nat} (hb : w0.heap.size ≤ b) (j : Nat) (v : Value) : Kp (MP pw) w0 (w.setCell ⟨b, j, none⟩ v) :=
  ⟨h.os, h.tape, h.output, by have := h.size; simpa [World.setCell] using this, fun k hk hk2 => (Below.heap_setCell _ _ _ _ (by show k ≠ b; omega)).trans (h.block k hk hk2), fun k hk => .inl hk⟩
set_option maxRecDepth 100000 in
theorem rfail_any (pw : Nat) (e0 n x : Int) (w : World) (h : WkS pw e0 n w) :
    Calls Tryd.prog 57 #[.pointer (some ⟨pw, 0, none⟩), .int .i64 x] w fun e w' => e = .returned (.tuple #[]) ∧ Kp (MP pw) w w' ∧ WkS pw (er e0 x) n w' ∧ w'.heap.size = w.heap.size ∧ ∀ q, q ≠ pw → w'.heap[q]? = w.heap[q]? := by
  have h1 := h.c0
  have hz := h.f0
  by_cases he : e0 = 0
  · subst he
    have hs := h.setE x
    have hsz : (w.setCell ⟨pw, 0, none⟩ (.int .i64 x)).heap.size = w.heap.size := by simp [World.setCell]
    have HS := Lib.hid hs
    have HZ := Lib.hid hsz
    clear hs hsz
    go_enter Tryd.func57, Tryd.ntmps57
    go_wp2
    go_end0
    exact ⟨rfl, (Kp.refl _ _).setP _ _, by rw [er_zero]; exact HS.out, HZ.out, fun q hq => Below.heap_setCell _ _ _ _ hq⟩
  · have hd : (e0 == 0) = false := by simpa using he
    have hs : er e0 x = e0 := by unfold er; rw [if_neg he]
    have HS := Lib.hid hs
    clear hs
    go_enter Tryd.func57, Tryd.ntmps57
    go_wp2
    go_end0
    exact ⟨rfl, Kp.refl _ _, by rw [HS.out]; exact h, rfl, fun _ _ => rfl⟩
set_option maxRecDepth 100000 in
theorem rvar_any (pw : Nat) (e0 n i : Int) (w : World) (h : WkS pw e0 n w) :
    Calls Tryd.prog 58 #[.pointer (some ⟨pw, 0, none⟩), .int .i64 i] w fun e w' => e = .returned (.agg #[.int .i64 0, .int .i64 i, .string ⟨#[]⟩, .slice none 0 0, .slice none 0 0]) ∧ Kp (MP pw) w w' ∧ WkS pw (er e0 (big i)) n w' := by
  have hlt := h.lt
  have hb0 : Below w.heap.size w (w.alloc (.cells #[.int .i64 0, .int .i64 0, .string ⟨#[]⟩, .slice none 0 0, .slice none 0 0] 25)) := (Below.refl _ _).alloc (Nat.le_refl _) _
  by_cases hb : 65535 < i
  · have hd : decide (65535 < i) = true := decide_eq_true hb
    have HB := Lib.hid (show big i = 24 by unfold big; rw [if_pos hb])
    have b0 := B5.new w (.int .i64 0) (.int .i64 0) (.string ⟨#[]⟩) (.slice none 0 0) (.slice none 0 0)
    have HH := Lib.hid (And.intro (h.next hb0) (And.intro b0 hb0))
    clear b0 hb0 h
    go_enter Tryd.func58, Tryd.ntmps58
    go_wp2_with fail
    refine (rfail_any pw e0 n 24 _ HH.out.1).mono ?_
    rintro e w1 ⟨rfl, hk, hw, hs, hq⟩
    have hbl := hq w.heap.size (by omega)
    have b1 : B5 w.heap.size (.int .i64 0) (.int .i64 0) (.string ⟨#[]⟩) (.slice none 0 0) (.slice none 0 0) w1 := by
      have b0 := HH.out.2.1
      exact ⟨(World.cell?_of_block (a := ⟨w.heap.size, 0, none⟩) hbl).trans b0.x0, (World.cell?_of_block (a := ⟨w.heap.size, 1, none⟩) hbl).trans b0.x1, (World.cell?_of_block (a := ⟨w.heap.size, 2, none⟩) hbl).trans b0.x2, (World.cell?_of_block (a := ⟨w.heap.size, 3, none⟩) hbl).trans b0.x3, (World.cell?_of_block (a := ⟨w.heap.size, 4, none⟩) hbl).trans b0.x4, (World.frozen?_of_block (a := ⟨w.heap.size, 0, none⟩) hbl).trans b0.f0, (World.frozen?_of_block (a := ⟨w.heap.size, 1, none⟩) hbl).trans b0.f1, (World.frozen?_of_block (a := ⟨w.heap.size, 2, none⟩) hbl).trans b0.f2, (World.frozen?_of_block (a := ⟨w.heap.size, 3, none⟩) hbl).trans b0.f3, (World.frozen?_of_block (a := ⟨w.heap.size, 4, none⟩) hbl).trans b0.f4⟩
    have hk1 : Kp (MP pw) w w1 := ((Kp.refl _ w).newP HH.out.2.2).trans hk
    have hb1 := b1.put (.int .i64 0) (.int .i64 i) (.string ⟨#[]⟩) (.slice none 0 0) (.slice none 0 0)
    have hk2 := ((((hk1.ownP (Nat.le_refl _) 0 (.int .i64 0)).ownP (Nat.le_refl _) 1 (.int .i64 i)).ownP (Nat.le_refl _) 2 (.string ⟨#[]⟩)).ownP (Nat.le_refl _) 3 (.slice none 0 0)).ownP (Nat.le_refl _) 4 (.slice none 0 0)
    have hw2 : WkS pw (er e0 24) n (set5 w1 w.heap.size 0 (.int .i64 0) (.int .i64 i) (.string ⟨#[]⟩) (.slice none 0 0) (.slice none 0 0)) := hw.kp (set5_heap (by omega))
    unfold set5 at hb1 hw2
    simp only [Nat.zero_add] at hb1 hw2
    have H2 := Lib.hid (And.intro hb1 (And.intro hk2 hw2))
    clear hb1 hk2 hw2 hk1 hk hw hbl hs hq HH
    obtain ⟨x0, x1, x2, x3, x4, f0, f1, f2, f3, f4⟩ := b1
    go_wp2_with fail
    generalize (((((w1.setCell ⟨w.heap.size, 0, none⟩ (.int .i64 0)).setCell ⟨w.heap.size, 1, none⟩ (.int .i64 i)).setCell ⟨w.heap.size, 2, none⟩ (.string ⟨#[]⟩)).setCell ⟨w.heap.size, 3, none⟩ (.slice none 0 0)).setCell ⟨w.heap.size, 4, none⟩ (.slice none 0 0)) = w3 at H2 ⊢
    clear x0 x1 x2 x3 x4 f0 f1 f2 f3 f4
    obtain ⟨x0, x1, x2, x3, x4, f0, f1, f2, f3, f4⟩ := H2.out.1
    exact bodyPost_ret (v := .agg #[.int .i64 0, .int .i64 i, .string ⟨#[]⟩, .slice none 0 0, .slice none 0 0]) (by simp [results, Tryd.results58, go_sem, x0, x1, x2, x3, x4]) rfl ⟨rfl, H2.out.2.1, by rw [HB.out]; exact H2.out.2.2⟩
  · have hd : decide (65535 < i) = false := by rw [decide_eq_false_iff_not]; exact hb
    have HB := Lib.hid (show big i = 0 by unfold big; rw [if_neg hb])
    have hb1 : Below w.heap.size w (w.alloc (.cells #[.int .i64 0, .int .i64 i, .string ⟨#[]⟩, .slice none 0 0, .slice none 0 0] 25)) := (Below.refl _ _).alloc (Nat.le_refl _) _
    have HH := Lib.hid (And.intro (h.next hb1) ((Kp.refl (MP pw) w).newP hb1))
    clear hb0 hb1 h
    go_enter Tryd.func58, Tryd.ntmps58
    go_wp2_with fail
    exact bodyPost_ret (v := .agg #[.int .i64 0, .int .i64 i, .string ⟨#[]⟩, .slice none 0 0, .slice none 0 0]) (by simp [results, Tryd.results58, go_sem]) rfl ⟨rfl, HH.out.2, by rw [HB.out, er_zero_right]; exact HH.out.1⟩
end Go.Proofs.YtobaeeobfcffoaaDoor
