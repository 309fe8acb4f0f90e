/- Abstract of the program. -/
import Derived.Test.YtobaeeobfcffoaaDoorAbw
namespace Go.Proofs.YtobaeeobfcffoaaDoor
open Go.RowKit
theorem enters_abs1 (a : Array Value) (w : World) : (callFunc 43 a).run Tryd.prog w = .ok (.enter 43 a) w := by
  simp [go_sem]
mutual
theorem cp_f {R : Tm → Nat → Option Ou} (hR : ∀ t d x, R t d = some x → x.f ≤ x.n) : ∀ (t : Tm) (d : Nat), (cpT R t d).f ≤ (cpT R t d).n
  | .mk k i nm ls ks, d => by
    cases hr : R (.mk k i nm ls ks) d with
    | some x => rw [cpT_some hr]; exact hR _ _ _ hr
    | none =>
      rw [cpT_none hr]
      show (cpL R ks k d 0).f ≤ 1 + (cpL R ks k d 0).n
      have := cp_fL hR ks k d 0
      omega
theorem cp_fL {R : Tm → Nat → Option Ou} (hR : ∀ t d x, R t d = some x → x.f ≤ x.n) : ∀ (ks : List Tm) (k : Int) (d j : Nat), (cpL R ks k d j).f ≤ (cpL R ks k d j).n
  | [], _, _, _ => by rw [cpL]; exact Nat.le_refl _
  | q :: r, k, d, j => by
    rw [cpL]
    have h1 := cp_f hR q (d + bbN k j)
    have h2 := cp_fL hR r k d (j + 1)
    show _ + _ ≤ _ + _
    omega
end
mutual
theorem AllT.sz {N : Nat} : ∀ (t : Tm) (d : Nat), AllT Qv t d → szT t ≤ N → AllT (fun t d => Qv t d ∧ szT t ≤ N) t d
  | .mk k i nm ls ks, d, h, hs => by
    have h0 := h.here
    rw [AllT] at h ⊢
    have hs' : szL ks ≤ N := by rw [szT] at hs; omega
    exact ⟨⟨h0, hs⟩, AllL.sz ks k d 0 h.2 hs'⟩
theorem AllL.sz {N : Nat} : ∀ (ks : List Tm) (k : Int) (d j : Nat), AllL Qv ks k d j → szL ks ≤ N → AllL (fun t d => Qv t d ∧ szT t ≤ N) ks k d j
  | [], _, _, _, _, _ => by rw [AllL]; trivial
  | q :: r, k, d, j, h, hs => by
    rw [AllL] at h ⊢
    rw [szL] at hs
    exact ⟨AllT.sz q _ h.1 (by omega), AllL.sz r k d (j + 1) h.2 (by omega)⟩
end
theorem absP_f (part : Tm) : ∀ t d x, absP part t d = some x → x.f ≤ x.n := by
  intro t d x h
  unfold absP at h
  split at h
  · injection h with h; rw [← h]; exact Nat.le_refl _
  · cases t with
    | mk k i nm ls ks =>
      simp only [shR] at h
      split at h
      · injection h with h; rw [← h]; exact Nat.zero_le _
      · cases h
/-- The memory in which Abstract calls build. -/
def abW (w : World) (v u : Array Value) : World := (((((((w.alloc (.cells v 25)).alloc (.cells u 25)).alloc (.cells #[.int .i64 0, .int .i64 0, .string ⟨#[]⟩, .slice none 0 0, .slice none 0 0] 25)).alloc (.cells #[.slice none 0 0] 74)).alloc (.cells #[.int .i64 0] 3)).alloc (.cells #[.int .i64 1] 3)).alloc (.cells #[.int .i64 0] 3)).alloc (.cells #[.func (.func 56) #[] #[.pointer (some ⟨w.heap.size + 1 + 1 + 1 + 1 + 1 + 1, 0, none⟩), .pointer (some ⟨w.heap.size + 1 + 1 + 1 + 1 + 1, 0, none⟩)]] 59)
theorem abW_size (w : World) (v u : Array Value) : (abW w v u).heap.size = w.heap.size + 1 + 1 + 1 + 1 + 1 + 1 + 1 + 1 := by simp [abW]
theorem abW_below (w : World) (v u : Array Value) : Below w.heap.size w (abW w v u) := by
  unfold abW
  exact ((((((((Below.refl _ w).alloc (Nat.le_refl _) _).alloc (by simp) _).alloc (by simp; omega) _).alloc (by simp; omega) _).alloc (by simp; omega) _).alloc (by simp; omega) _).alloc (by simp; omega) _).alloc (by simp; omega) _
/-- The call returns a term, a count and an error. -/
def GivesA (err : Int) (t : Tm) (n : Nat) (w : World) (e : Ending) (w' : World) : Prop :=
  Below w.heap.size w w' ∧ ∃ k i nm AL nl cl AK nk ck, e = .returned (.tuple #[.agg #[.int .i64 k, .int .i64 i, .string nm, .slice AL nl cl, .slice AK nk ck], .int .i64 n, .int .i64 err]) ∧ TmV w' w'.heap.size t (.agg #[.int .i64 k, .int .i64 i, .string nm, .slice AL nl cl, .slice AK nk ck])
theorem GivesA.more {err : Int} {r : Tm} {n : Nat} {w w' w'' : World} {e : Ending} (h : GivesA err r n w e w') (hb : Below w'.heap.size w' w'') : GivesA err r n w e w'' := by
  obtain ⟨h1, k, i, nm, AL, nl, cl, AK, nk, ck, rfl, ht⟩ := h
  exact ⟨h1.trans (hb.mono h1.size), k, i, nm, AL, nl, cl, AK, nk, ck, rfl, (TmP.keep (S := fun q => q < w'.heap.size) (fun p hp => hb.cell hp) _ _ (TmP.of _ _ ht)).tmV⟩
theorem drew_cell (w : World) (p : Addr) : w.drew.cell? p = w.cell? p := rfl
/-- How often the part is found. -/
def abN (part t : Tm) : Nat := if errO (cpT (absP part) t 0) = 0 then (cpT (absP part) t 0).f else 0
set_option maxRecDepth 100000 in
set_option maxHeartbeats 4000000 in
theorem abstract_any (t part : Tm) (vt vp : Value) (B : Nat) (w : World) (hv : TmV w B t vt) (hp : TmV w B part vp) (hB : B ≤ w.heap.size) (hsz : szT t ≤ 1000000) (hq : AllT Qv t 0) (hszp : szT part ≤ 1000000) (hqp : AllT Qv part 0) :
    Calls Tryd.prog 21 #[vt, vp] w (GivesA (errO (cpT (absP part) t 0)) (resO (cpT (absP part) t 0)) (abN part t) w) := by
  obtain ⟨k, i, nm, AL, nl, cl, AK, nk, ck, rfl, _⟩ := TmP.open_ (TmP.of t vt hv)
  obtain ⟨pk, pi, pn, pAL, pnl, pcl, pAK, pnk, pck, rfl, _⟩ := TmP.open_ (TmP.of part vp hp)
  obtain ⟨W, hW⟩ : ∃ W, W = abW w #[.int .i64 k, .int .i64 i, .string nm, .slice AL nl cl, .slice AK nk ck] #[.int .i64 pk, .int .i64 pi, .string pn, .slice pAL pnl pcl, .slice pAK pnk pck] := ⟨_, rfl⟩
  have hWs : W.heap.size = w.heap.size + 1 + 1 + 1 + 1 + 1 + 1 + 1 + 1 := by rw [hW]; exact abW_size _ _ _
  have hWb : Below w.heap.size w W := by rw [hW]; exact abW_below _ _ _
  have bt : B5 w.heap.size (.int .i64 k) (.int .i64 i) (.string nm) (.slice AL nl cl) (.slice AK nk ck) W := by
    rw [hW]; unfold abW
    exact ⟨by go_simp, by go_simp, by go_simp, by go_simp, by go_simp, by go_simp, by go_simp, by go_simp, by go_simp, by go_simp⟩
  have bp : B5 (w.heap.size + 1) (.int .i64 pk) (.int .i64 pi) (.string pn) (.slice pAL pnl pcl) (.slice pAK pnk pck) W := by
    rw [hW]; unfold abW
    exact ⟨by go_simp, by go_simp, by go_simp, by go_simp, by go_simp, by go_simp, by go_simp, by go_simp, by go_simp, by go_simp⟩
  have br : B5 (w.heap.size + 1 + 1) (.int .i64 0) (.int .i64 0) (.string ⟨#[]⟩) (.slice none 0 0) (.slice none 0 0) W := by
    rw [hW]; unfold abW
    exact ⟨by go_simp, by go_simp, by go_simp, by go_simp, by go_simp, by go_simp, by go_simp, by go_simp, by go_simp, by go_simp⟩
  have cpp : W.cell? ⟨w.heap.size + 1 + 1 + 1, 0, none⟩ = some (.slice none 0 0) ∧ W.frozen? ⟨w.heap.size + 1 + 1 + 1, 0, none⟩ = false := by
    rw [hW]; unfold abW
    exact ⟨by go_simp, by go_simp⟩
  have cpf : W.cell? ⟨w.heap.size + 1 + 1 + 1 + 1, 0, none⟩ = some (.int .i64 0) ∧ W.frozen? ⟨w.heap.size + 1 + 1 + 1 + 1, 0, none⟩ = false := by
    rw [hW]; unfold abW
    exact ⟨by go_simp, by go_simp⟩
  have cby : W.cell? ⟨w.heap.size + 1 + 1 + 1 + 1 + 1, 0, none⟩ = some (.int .i64 1) := by rw [hW]; unfold abW; go_simp
  have cfr : W.cell? ⟨w.heap.size + 1 + 1 + 1 + 1 + 1 + 1, 0, none⟩ = some (.int .i64 0) := by rw [hW]; unfold abW; go_simp
  have csh : W.cell? ⟨w.heap.size + 1 + 1 + 1 + 1 + 1 + 1 + 1, 0, none⟩ = some (.func (.func 56) #[] #[.pointer (some ⟨w.heap.size + 1 + 1 + 1 + 1 + 1 + 1, 0, none⟩), .pointer (some ⟨w.heap.size + 1 + 1 + 1 + 1 + 1, 0, none⟩)]) := by rw [hW]; unfold abW; go_simp
  obtain ⟨C, hCd⟩ : ∃ C : AbC, C = ⟨W, fun q => q < B ∨ q = w.heap.size + 1 ∨ q = w.heap.size + 1 + 1 + 1 + 1 + 1 + 1 + 1 ∨ q = w.heap.size + 1 + 1 + 1 + 1 + 1 + 1 ∨ q = w.heap.size + 1 + 1 + 1 + 1 + 1, w.heap.size + 1 + 1 + 1, w.heap.size + 1 + 1 + 1 + 1, part⟩ := ⟨_, rfl⟩
  have hO : ∀ q, C.Old q ↔ (q < B ∨ q = w.heap.size + 1 ∨ q = w.heap.size + 1 + 1 + 1 + 1 + 1 + 1 + 1 ∨ q = w.heap.size + 1 + 1 + 1 + 1 + 1 + 1 ∨ q = w.heap.size + 1 + 1 + 1 + 1 + 1) := fun q => by rw [hCd]
  have hCW : C.W = W := by rw [hCd]
  have hCp : C.pp = w.heap.size + 1 + 1 + 1 := by rw [hCd]
  have hCf : C.pf = w.heap.size + 1 + 1 + 1 + 1 := by rw [hCd]
  have hCt : C.part = part := by rw [hCd]
  clear hCd
  have hCb : C.pb = W.heap.size + 1 + 1 + 1 := by unfold AbC.pb; rw [hCW]
  have hC : C.Ok := ⟨fun q h => by rw [hO] at h; rw [hCW]; omega, by rw [hCW, hCp]; omega, by rw [hCW, hCf]; omega, fun h => by rw [hO, hCp] at h; omega, fun h => by rw [hO, hCf] at h; omega, by rw [hCp, hCf]; omega⟩
  have htp : TmP W C.Old part (.agg #[.int .i64 pk, .int .i64 pi, .string pn, .slice pAL pnl pcl, .slice pAK pnk pck]) := TmP.mono (fun q h _ => (hO q).2 (.inl h)) _ _ (TmP.of _ _ (hp.below hWb hB))
  have htt : TmP W C.Old t (.agg #[.int .i64 k, .int .i64 i, .string nm, .slice AL nl cl, .slice AK nk ck]) := TmP.mono (fun q h _ => (hO q).2 (.inl h)) _ _ (TmP.of _ _ (hv.below hWb hB))
  have hcap : C.Cap (w.heap.size + 1) (w.heap.size + 1 + 1 + 1 + 1 + 1 + 1 + 1) (w.heap.size + 1 + 1 + 1 + 1 + 1 + 1) (w.heap.size + 1 + 1 + 1 + 1 + 1) pk pi pn pAL pnl pcl pAK pnk pck :=
    ⟨(hO _).2 (.inr (.inl rfl)), (hO _).2 (.inr (.inr (.inl rfl))), (hO _).2 (.inr (.inr (.inr (.inl rfl)))), (hO _).2 (.inr (.inr (.inr (.inr rfl)))), by rw [hCW]; exact bp.x0, by rw [hCW]; exact bp.x1, by rw [hCW]; exact bp.x2, by rw [hCW]; exact bp.x3, by rw [hCW]; exact bp.x4, by rw [hCW]; exact csh, by rw [hCW]; exact cfr, by rw [hCW]; exact cby, by rw [hCW, hCt]; exact htp, by rw [hCt]; exact hszp, by rw [hCt]; exact hqp⟩
  have hB' := AbC.bld hC
  have hbw : ∀ q, q < W.heap.size → (bw W #[.int .i64 k, .int .i64 i, .string nm, .slice AL nl cl, .slice AK nk ck]).heap[q]? = W.heap[q]? := fun q h => bw_old W _ h
  have hbpp : (bw W #[.int .i64 k, .int .i64 i, .string nm, .slice AL nl cl, .slice AK nk ck]).cell? ⟨C.pp, 0, none⟩ = some (.slice none 0 0) := (World.cell?_of_block (w := W) (a := ⟨C.pp, 0, none⟩) (hbw _ (by show C.pp < W.heap.size; rw [hCp]; omega))).trans (by rw [hCp]; exact cpp.1)
  have hi0 : C.Inv 0 0 0 0 (bw W #[.int .i64 k, .int .i64 i, .string nm, .slice AL nl cl, .slice AK nk ck]) := by
    have hst := invS_start W (fun q => q < W.heap.size) (fun q h => h) #[.int .i64 k, .int .i64 i, .string nm, .slice AL nl cl, .slice AK nk ck]
    refine ⟨by rw [hCb]; exact ⟨hst.1, hst.2.1, hst.2.2.1, hst.2.2.2.1⟩, ⟨(World.cell?_of_block (w := W) (a := ⟨C.pf, 0, none⟩) (hbw _ (by show C.pf < W.heap.size; rw [hCf]; omega))).trans (by rw [hCf]; exact cpf.1), (World.frozen?_of_block (w := W) (a := ⟨C.pf, 0, none⟩) (hbw _ (by show C.pf < W.heap.size; rw [hCf]; omega))).trans (by rw [hCf]; exact cpf.2)⟩, by rw [hCW]; exact hst.2.2.2.2.1, fun q h => by rw [hCW]; exact hbw q (by rw [hO] at h; omega), 0, Nat.le_refl _, .slice none 0 0, [], hbpp, (World.frozen?_of_block (w := W) (a := ⟨C.pp, 0, none⟩) (hbw _ (by show C.pp < W.heap.size; rw [hCp]; omega))).trans (by rw [hCp]; exact cpp.2), ⟨rfl, .inl ⟨rfl, rfl⟩⟩, fun g c h j hj => absurd hj (Nat.not_lt_zero _)⟩
  have hM : ∀ q, C.M (bw W #[.int .i64 k, .int .i64 i, .string nm, .slice AL nl cl, .slice AK nk ck]) q → q = W.heap.size + 1 + 1 + 1 ∨ q = w.heap.size + 1 + 1 + 1 ∨ q = w.heap.size + 1 + 1 + 1 + 1 := by
    rintro q (rfl | rfl | rfl | ⟨g, len, cap, hg, _⟩)
    · exact .inl hCb
    · exact .inr (.inr hCf)
    · exact .inr (.inl hCp)
    · rw [hbpp] at hg; simp at hg
  have hrep : Rep (W.heap.size + 1 + 1 + 1) C.Old C.Inv C.M (fun t d => Qv t d ∧ szT t ≤ 1000000) 43 #[.pointer (some ⟨w.heap.size + 1 + 1 + 1, 0, none⟩), .pointer (some ⟨w.heap.size + 1, 0, none⟩), .pointer (some ⟨w.heap.size + 1 + 1 + 1 + 1, 0, none⟩), .pointer (some ⟨w.heap.size + 1 + 1 + 1 + 1 + 1 + 1 + 1, 0, none⟩)] (absP part) := by
    intro k i nm AL cl ls AK ck ks d n f e w' hq hd ht hi hn
    have h := abs1_any hC hcap hi hn hd k i nm AL cl AK ck ls ks (fun e => hq.here.1 e) (Nat.le_trans hq.here.2 (by omega)) ht
    rw [hCb, hCp, hCf, hCt] at h
    exact h
  rw [hCb] at hB'
  have hbu := build_any hB' hrep enters_abs1 t hsz (AllT.sz t 0 hq hsz) (fun q h => by have := hM q h; omega) (fun q h => by rw [hO] at h; omega) (TmP.keep (fun p hp => World.cell?_of_block (w := W) (hbw _ (hC.old _ hp |> fun h => by rw [hCW] at h; exact h))) _ _ htt) hi0
  -- what follows from build's ending
  have HAF := Lib.hid (show ∀ e w9, BOut C.Old C.Inv C.M W.heap.size (cpT (absP part) t 0) (bw W #[.int .i64 k, .int .i64 i, .string nm, .slice AL nl cl, .slice AK nk ck]) e w9 →
      B5 (w.heap.size + 1 + 1) (.int .i64 0) (.int .i64 0) (.string ⟨#[]⟩) (.slice none 0 0) (.slice none 0 0) w9 ∧ Below w.heap.size w w9 ∧
      ((errO (cpT (absP part) t 0) ≠ 0 ∧ e = .returned (.tuple #[zeroV, .int .i64 (errO (cpT (absP part) t 0))])) ∨ (errO (cpT (absP part) t 0) = 0 ∧ ∃ k i nm AL nl cl AK nk ck, e = .returned (.tuple #[.agg #[.int .i64 k, .int .i64 i, .string nm, .slice AL nl cl, .slice AK nk ck], .int .i64 0]) ∧ TmP w9 (fun q => q ≠ w.heap.size + 1 + 1) (cpT (absP part) t 0).t (.agg #[.int .i64 k, .int .i64 i, .string nm, .slice AL nl cl, .slice AK nk ck]) ∧ w9.cell? ⟨w.heap.size + 1 + 1 + 1 + 1, 0, none⟩ = some (.int .i64 ((cpT (absP part) t 0).f : Nat)))) from by
    rintro e w9 ⟨hf, h⟩
    have hbs := bw_size W #[.int .i64 k, .int .i64 i, .string nm, .slice AL nl cl, .slice AK nk ck]
    have hk : ∀ q, q < w.heap.size + 1 + 1 + 1 → w9.heap[q]? = W.heap[q]? := fun q hq => (hf.block q (by rw [hbs]; omega) (fun h => by have := hM q h; omega) (by omega) (by omega)).trans (hbw q (by omega))
    refine ⟨⟨(World.cell?_of_block (w := W) (hk _ (by show w.heap.size + 1 + 1 < w.heap.size + 1 + 1 + 1; omega))).trans br.x0, (World.cell?_of_block (w := W) (hk _ (by show w.heap.size + 1 + 1 < w.heap.size + 1 + 1 + 1; omega))).trans br.x1, (World.cell?_of_block (w := W) (hk _ (by show w.heap.size + 1 + 1 < w.heap.size + 1 + 1 + 1; omega))).trans br.x2, (World.cell?_of_block (w := W) (hk _ (by show w.heap.size + 1 + 1 < w.heap.size + 1 + 1 + 1; omega))).trans br.x3, (World.cell?_of_block (w := W) (hk _ (by show w.heap.size + 1 + 1 < w.heap.size + 1 + 1 + 1; omega))).trans br.x4, (World.frozen?_of_block (w := W) (hk _ (by show w.heap.size + 1 + 1 < w.heap.size + 1 + 1 + 1; omega))).trans br.f0, (World.frozen?_of_block (w := W) (hk _ (by show w.heap.size + 1 + 1 < w.heap.size + 1 + 1 + 1; omega))).trans br.f1, (World.frozen?_of_block (w := W) (hk _ (by show w.heap.size + 1 + 1 < w.heap.size + 1 + 1 + 1; omega))).trans br.f2, (World.frozen?_of_block (w := W) (hk _ (by show w.heap.size + 1 + 1 < w.heap.size + 1 + 1 + 1; omega))).trans br.f3, (World.frozen?_of_block (w := W) (hk _ (by show w.heap.size + 1 + 1 < w.heap.size + 1 + 1 + 1; omega))).trans br.f4⟩, ?_, ?_⟩
    · exact hWb.trans ⟨hf.os.trans rfl, hf.tape.trans rfl, hf.output.trans rfl, by have := hf.size; rw [hbs] at this; omega, fun q hq => hk q (by omega)⟩
    · rcases h with ⟨hn, rfl⟩ | ⟨hn, he, rfl⟩ | ⟨hn, he, k', i', nm', AL', nl', cl', AK', nk', ck', rfl, ht, hinv⟩
      · have h1 : errO (cpT (absP part) t 0) = 5 := by unfold errO; rw [if_pos hn]
        rw [h1]
        exact .inl ⟨by decide, rfl⟩
      · have h1 : errO (cpT (absP part) t 0) = (cpT (absP part) t 0).e := by unfold errO; rw [if_neg (by omega)]
        rw [h1]
        exact .inl ⟨he, rfl⟩
      · have h1 : errO (cpT (absP part) t 0) = 0 := by unfold errO; rw [if_neg (by omega), he]
        refine .inr ⟨h1, _, _, _, _, _, _, _, _, _, rfl, TmP.mono (fun q h _ => ?_) _ _ ht, ?_⟩
        · rintro rfl
          rcases h.1 with h | h
          · rw [hO] at h; omega
          · rw [hbs] at h; omega
        · have hff := hinv.2.1.1
          rw [hCf, IntKind_wrap _ (by omega) (by have := cp_f (absP_f part) t 0; omega)] at hff
          exact hff)
  have HBU := Lib.hid hbu
  clear hbu hrep hM hi0 hbpp hbw hB' hcap htt htp hC hCb hCt hCf hCp hCW hO csh cfr cby cpf cpp br bp hWb hv hp hq hqp
  have HT := Lib.hid (show ∀ (w9 : World) (r : Tm) (k i : Int) (nm : ByteArray) (AL : Option Addr) (nl cl : Nat) (AK : Option Addr) (nk ck : Nat) (err : Int) (n : Nat), Below w.heap.size w w9 → B5 (w.heap.size + 1 + 1) (.int .i64 0) (.int .i64 0) (.string ⟨#[]⟩) (.slice none 0 0) (.slice none 0 0) w9 → TmP w9 (fun q => q ≠ w.heap.size + 1 + 1) r (.agg #[.int .i64 k, .int .i64 i, .string nm, .slice AL nl cl, .slice AK nk ck]) → B5 (w.heap.size + 1 + 1) (.int .i64 k) (.int .i64 i) (.string nm) (.slice AL nl cl) (.slice AK nk ck) (set5 w9 (w.heap.size + 1 + 1) 0 (.int .i64 k) (.int .i64 i) (.string nm) (.slice AL nl cl) (.slice AK nk ck)) ∧ GivesA err r n w (.returned (.tuple #[.agg #[.int .i64 k, .int .i64 i, .string nm, .slice AL nl cl, .slice AK nk ck], .int .i64 n, .int .i64 err])) (set5 w9 (w.heap.size + 1 + 1) 0 (.int .i64 k) (.int .i64 i) (.string nm) (.slice AL nl cl) (.slice AK nk ck)) from
    fun w9 r k i nm AL nl cl AK nk ck err n hb b5 ht => ⟨b5.put _ _ _ _ _, below_set5 hb (by omega) 0 _ _ _ _ _, _, _, _, _, _, _, _, _, _, rfl, (TmP.keep (fun p hp => set5_far (b := w.heap.size + 1 + 1) (o := 0) hp) _ _ ht).tmV⟩)
  have x0 := bt.x0
  have x1 := bt.x1
  have x2 := bt.x2
  have x3 := bt.x3
  have x4 := bt.x4
  rw [hW] at x0 x1 x2 x3 x4
  unfold abW at x0 x1 x2 x3 x4
  clear bt hWs
  subst hW
  have hn0 : ((((((((w.alloc (.cells #[.int .i64 k, .int .i64 i, .string nm, .slice AL nl cl, .slice AK nk ck] 25)).alloc (.cells #[.int .i64 pk, .int .i64 pi, .string pn, .slice pAL pnl pcl, .slice pAK pnk pck] 25)).alloc (.cells #[.int .i64 0, .int .i64 0, .string ⟨#[]⟩, .slice none 0 0, .slice none 0 0] 25)).alloc (.cells #[.slice none 0 0] 74)).alloc (.cells #[.int .i64 0] 3)).alloc (.cells #[.int .i64 1] 3)).alloc (.cells #[.int .i64 0] 3)).alloc (.cells #[Value.nilFunc] 59)).cell? ⟨w.heap.size + 1 + 1 + 1 + 1 + 1 + 1 + 1, 0, none⟩ = some Value.nilFunc := by go_simp
  have hn1 : ((((((((w.alloc (.cells #[.int .i64 k, .int .i64 i, .string nm, .slice AL nl cl, .slice AK nk ck] 25)).alloc (.cells #[.int .i64 pk, .int .i64 pi, .string pn, .slice pAL pnl pcl, .slice pAK pnk pck] 25)).alloc (.cells #[.int .i64 0, .int .i64 0, .string ⟨#[]⟩, .slice none 0 0, .slice none 0 0] 25)).alloc (.cells #[.slice none 0 0] 74)).alloc (.cells #[.int .i64 0] 3)).alloc (.cells #[.int .i64 1] 3)).alloc (.cells #[.int .i64 0] 3)).alloc (.cells #[Value.nilFunc] 59)).frozen? ⟨w.heap.size + 1 + 1 + 1 + 1 + 1 + 1 + 1, 0, none⟩ = false := by go_simp
  have hmf : ∀ (fn : Fn) (first cap : Array Value) (w : World), (Instr.makeFunc fn first cap).run Tryd.prog w = .ok (.func fn first cap) w := fun _ _ _ _ => rfl
  have hst : ∀ (a : Addr) (fn : Fn) (first cap : Array Value) (w : World), (store a (.func fn first cap)).run Tryd.prog w = stored Tryd.prog w a (.func fn first cap) .plain := fun _ _ _ _ _ => run_store _ _ _ _ _ rfl
  go_enter Tryd.func21, Tryd.ntmps21
  go_wp2_with (first | (go_at_call 30; refine (shifter_any 1 0 _).mono ?_; rintro e w7 ⟨rfl, rfl⟩) | fail)
  refine (show Calls Tryd.prog 29 _ _ _ from HBU.out).mono ?_
  intro e w9 h9
  obtain ⟨b9, hb9, h⟩ := HAF.out e w9 h9
  clear h9 HBU HAF hn0 hn1 x0 x1 x2 x3 x4
  rcases h with ⟨herr, rfl⟩ | ⟨herr, k9, i9, n9, AL9, nl9, cl9, AK9, nk9, ck9, rfl, ht9, hf9⟩
  · have h1 : resO (cpT (absP part) t 0) = nilT := by unfold resO; rw [if_neg herr]
    have h2 : abN part t = 0 := by unfold abN; rw [if_neg herr]
    have H1 := Lib.hid h1
    have H2 := Lib.hid h2
    clear h1 h2
    unfold zeroV
    have hbb : (errO (cpT (absP part) t 0) == 0) = false := by simpa using herr
    generalize errO (cpT (absP part) t 0) = er at *
    have h5 := HT.out w9 nilT 0 0 ⟨#[]⟩ none 0 0 none 0 0 er 0 hb9 b9 (tmP_vr' _ _ _ _ _ _ _)
    have hlt := b9.lt
    unfold set5 at h5
    simp only [Nat.zero_add] at h5
    have H5 := Lib.hid h5
    clear h5 hb9
    obtain ⟨y0, y1, y2, y3, y4, f0, f1, f2, f3, f4⟩ := b9
    go_wp2_with fail
    generalize (((((w9.setCell ⟨w.heap.size + 1 + 1, 0, none⟩ (.int .i64 0)).setCell ⟨w.heap.size + 1 + 1, 1, none⟩ (.int .i64 0)).setCell ⟨w.heap.size + 1 + 1, 2, none⟩ (.string ⟨#[]⟩)).setCell ⟨w.heap.size + 1 + 1, 3, none⟩ (.slice none 0 0)).setCell ⟨w.heap.size + 1 + 1, 4, none⟩ (.slice none 0 0)) = w12 at H5 ⊢
    have c5 := H5.out.1.next ((Below.refl _ _).alloc (Nat.le_refl _) (.cells #[.int .i64 0, .int .i64 0, .string ⟨#[]⟩, .slice none 0 0, .slice none 0 0] 25))
    obtain ⟨u0, u1, u2, u3, u4, _, _, _, _, _⟩ := c5
    exact bodyPost_ret (v := .tuple #[.agg #[.int .i64 0, .int .i64 0, .string ⟨#[]⟩, .slice none 0 0, .slice none 0 0], .int .i64 0, .int .i64 er]) (by simp [results, Tryd.results21, go_sem, u0, u1, u2, u3, u4]) rfl (by rw [H1.out, H2.out]; exact H5.out.2.more ((Below.refl _ _).alloc (Nat.le_refl _) _))
  · have h1 : resO (cpT (absP part) t 0) = (cpT (absP part) t 0).t := by unfold resO; rw [if_pos herr]
    have h2 : abN part t = (cpT (absP part) t 0).f := by unfold abN; rw [if_pos herr]
    have hba : Below w9.heap.size w9 (w9.alloc (.cells #[.int .i64 k9, .int .i64 i9, .string n9, .slice AL9 nl9 cl9, .slice AK9 nk9 ck9] 25)) := (Below.refl _ _).alloc (Nat.le_refl _) _
    have hlt := b9.lt
    have hbb : (errO (cpT (absP part) t 0) == 0) = true := by simpa using herr
    have bn := B5.new w9 (.int .i64 k9) (.int .i64 i9) (.string n9) (.slice AL9 nl9 cl9) (.slice AK9 nk9 ck9)
    obtain ⟨WA, hWA⟩ : ∃ WA, WA = w9.alloc (.cells #[.int .i64 k9, .int .i64 i9, .string n9, .slice AL9 nl9 cl9, .slice AK9 nk9 ck9] 25) := ⟨_, rfl⟩
    have HWA := Lib.hid hWA
    rw [← hWA] at bn hba
    have bA := b9.next hba
    have hf0 : WA.cell? ⟨w.heap.size + 1 + 1 + 1 + 1, 0, none⟩ = some (.int .i64 ((cpT (absP part) t 0).f : Nat)) := (hba.cell (p := ⟨w.heap.size + 1 + 1 + 1 + 1, 0, none⟩) (World.block_lt_of_cell? w9 _ hf9)).trans hf9
    have htA : TmP WA (fun q => q ≠ w.heap.size + 1 + 1) (cpT (absP part) t 0).t (.agg #[.int .i64 k9, .int .i64 i9, .string n9, .slice AL9 nl9 cl9, .slice AK9 nk9 ck9]) := TmP.mono (fun q h _ => h.1) _ _ (TmP.keep (S := fun q => q ≠ w.heap.size + 1 + 1 ∧ q < w9.heap.size) (fun p hp => hba.cell hp.2) _ _ (TmP.mono (fun q h hl => ⟨h, hl⟩) _ _ ht9))
    have h5 := HT.out WA (cpT (absP part) t 0).t k9 i9 n9 AL9 nl9 cl9 AK9 nk9 ck9 0 (cpT (absP part) t 0).f (hb9.trans (hba.mono hb9.size)) bA htA
    have hfar : ∀ p : Addr, p.block ≠ w.heap.size + 1 + 1 → (set5 WA (w.heap.size + 1 + 1) 0 (.int .i64 k9) (.int .i64 i9) (.string n9) (.slice AL9 nl9 cl9) (.slice AK9 nk9 ck9)).cell? p = WA.cell? p := fun p hp => set5_far hp
    unfold set5 at h5 hfar
    simp only [Nat.zero_add] at h5 hfar
    have HS := Lib.hid (show WA.cell? ⟨w9.heap.size, 0, none⟩ = some (.int .i64 k9) ∧ WA.cell? ⟨w9.heap.size, 1, none⟩ = some (.int .i64 i9) ∧ WA.cell? ⟨w9.heap.size, 2, none⟩ = some (.string n9) ∧ WA.cell? ⟨w9.heap.size, 3, none⟩ = some (.slice AL9 nl9 cl9) ∧ WA.cell? ⟨w9.heap.size, 4, none⟩ = some (.slice AK9 nk9 ck9) ∧ WA.cell? ⟨w.heap.size + 1 + 1 + 1 + 1, 0, none⟩ = some (.int .i64 ((cpT (absP part) t 0).f : Nat)) from ⟨bn.x0, bn.x1, bn.x2, bn.x3, bn.x4, hf0⟩)
    have HSD := Lib.hid (show WA.drew.cell? ⟨w9.heap.size, 0, none⟩ = some (.int .i64 k9) ∧ WA.drew.cell? ⟨w9.heap.size, 1, none⟩ = some (.int .i64 i9) ∧ WA.drew.cell? ⟨w9.heap.size, 2, none⟩ = some (.string n9) ∧ WA.drew.cell? ⟨w9.heap.size, 3, none⟩ = some (.slice AL9 nl9 cl9) ∧ WA.drew.cell? ⟨w9.heap.size, 4, none⟩ = some (.slice AK9 nk9 ck9) ∧ WA.drew.cell? ⟨w.heap.size + 1 + 1 + 1 + 1, 0, none⟩ = some (.int .i64 ((cpT (absP part) t 0).f : Nat)) from ⟨bn.x0, bn.x1, bn.x2, bn.x3, bn.x4, hf0⟩)
    have HSE := Lib.hid (show (((((WA.setCell ⟨w.heap.size + 1 + 1, 0, none⟩ (.int .i64 k9)).setCell ⟨w.heap.size + 1 + 1, 1, none⟩ (.int .i64 i9)).setCell ⟨w.heap.size + 1 + 1, 2, none⟩ (.string n9)).setCell ⟨w.heap.size + 1 + 1, 3, none⟩ (.slice AL9 nl9 cl9)).setCell ⟨w.heap.size + 1 + 1, 4, none⟩ (.slice AK9 nk9 ck9)).cell? ⟨w9.heap.size, 0, none⟩ = some (.int .i64 k9) ∧ (((((WA.setCell ⟨w.heap.size + 1 + 1, 0, none⟩ (.int .i64 k9)).setCell ⟨w.heap.size + 1 + 1, 1, none⟩ (.int .i64 i9)).setCell ⟨w.heap.size + 1 + 1, 2, none⟩ (.string n9)).setCell ⟨w.heap.size + 1 + 1, 3, none⟩ (.slice AL9 nl9 cl9)).setCell ⟨w.heap.size + 1 + 1, 4, none⟩ (.slice AK9 nk9 ck9)).cell? ⟨w9.heap.size, 1, none⟩ = some (.int .i64 i9) ∧ (((((WA.setCell ⟨w.heap.size + 1 + 1, 0, none⟩ (.int .i64 k9)).setCell ⟨w.heap.size + 1 + 1, 1, none⟩ (.int .i64 i9)).setCell ⟨w.heap.size + 1 + 1, 2, none⟩ (.string n9)).setCell ⟨w.heap.size + 1 + 1, 3, none⟩ (.slice AL9 nl9 cl9)).setCell ⟨w.heap.size + 1 + 1, 4, none⟩ (.slice AK9 nk9 ck9)).cell? ⟨w9.heap.size, 2, none⟩ = some (.string n9) ∧ (((((WA.setCell ⟨w.heap.size + 1 + 1, 0, none⟩ (.int .i64 k9)).setCell ⟨w.heap.size + 1 + 1, 1, none⟩ (.int .i64 i9)).setCell ⟨w.heap.size + 1 + 1, 2, none⟩ (.string n9)).setCell ⟨w.heap.size + 1 + 1, 3, none⟩ (.slice AL9 nl9 cl9)).setCell ⟨w.heap.size + 1 + 1, 4, none⟩ (.slice AK9 nk9 ck9)).cell? ⟨w9.heap.size, 3, none⟩ = some (.slice AL9 nl9 cl9) ∧ (((((WA.setCell ⟨w.heap.size + 1 + 1, 0, none⟩ (.int .i64 k9)).setCell ⟨w.heap.size + 1 + 1, 1, none⟩ (.int .i64 i9)).setCell ⟨w.heap.size + 1 + 1, 2, none⟩ (.string n9)).setCell ⟨w.heap.size + 1 + 1, 3, none⟩ (.slice AL9 nl9 cl9)).setCell ⟨w.heap.size + 1 + 1, 4, none⟩ (.slice AK9 nk9 ck9)).cell? ⟨w9.heap.size, 4, none⟩ = some (.slice AK9 nk9 ck9) ∧ (((((WA.setCell ⟨w.heap.size + 1 + 1, 0, none⟩ (.int .i64 k9)).setCell ⟨w.heap.size + 1 + 1, 1, none⟩ (.int .i64 i9)).setCell ⟨w.heap.size + 1 + 1, 2, none⟩ (.string n9)).setCell ⟨w.heap.size + 1 + 1, 3, none⟩ (.slice AL9 nl9 cl9)).setCell ⟨w.heap.size + 1 + 1, 4, none⟩ (.slice AK9 nk9 ck9)).cell? ⟨w.heap.size + 1 + 1 + 1 + 1, 0, none⟩ = some (.int .i64 ((cpT (absP part) t 0).f : Nat)) from ⟨(hfar _ (by show w9.heap.size ≠ _; omega)).trans bn.x0, (hfar _ (by show w9.heap.size ≠ _; omega)).trans bn.x1, (hfar _ (by show w9.heap.size ≠ _; omega)).trans bn.x2, (hfar _ (by show w9.heap.size ≠ _; omega)).trans bn.x3, (hfar _ (by show w9.heap.size ≠ _; omega)).trans bn.x4, (hfar _ (by show w.heap.size + 1 + 1 + 1 + 1 ≠ _; omega)).trans hf0⟩)
    have HSX := Lib.hid (show (((((WA.setCell ⟨w.heap.size + 1 + 1, 0, none⟩ (.int .i64 k9)).setCell ⟨w.heap.size + 1 + 1, 1, none⟩ (.int .i64 i9)).setCell ⟨w.heap.size + 1 + 1, 2, none⟩ (.string n9)).setCell ⟨w.heap.size + 1 + 1, 3, none⟩ (.slice AL9 nl9 cl9)).setCell ⟨w.heap.size + 1 + 1, 4, none⟩ (.slice AK9 nk9 ck9)).drew.cell? ⟨w9.heap.size, 0, none⟩ = some (.int .i64 k9) ∧ (((((WA.setCell ⟨w.heap.size + 1 + 1, 0, none⟩ (.int .i64 k9)).setCell ⟨w.heap.size + 1 + 1, 1, none⟩ (.int .i64 i9)).setCell ⟨w.heap.size + 1 + 1, 2, none⟩ (.string n9)).setCell ⟨w.heap.size + 1 + 1, 3, none⟩ (.slice AL9 nl9 cl9)).setCell ⟨w.heap.size + 1 + 1, 4, none⟩ (.slice AK9 nk9 ck9)).drew.cell? ⟨w9.heap.size, 1, none⟩ = some (.int .i64 i9) ∧ (((((WA.setCell ⟨w.heap.size + 1 + 1, 0, none⟩ (.int .i64 k9)).setCell ⟨w.heap.size + 1 + 1, 1, none⟩ (.int .i64 i9)).setCell ⟨w.heap.size + 1 + 1, 2, none⟩ (.string n9)).setCell ⟨w.heap.size + 1 + 1, 3, none⟩ (.slice AL9 nl9 cl9)).setCell ⟨w.heap.size + 1 + 1, 4, none⟩ (.slice AK9 nk9 ck9)).drew.cell? ⟨w9.heap.size, 2, none⟩ = some (.string n9) ∧ (((((WA.setCell ⟨w.heap.size + 1 + 1, 0, none⟩ (.int .i64 k9)).setCell ⟨w.heap.size + 1 + 1, 1, none⟩ (.int .i64 i9)).setCell ⟨w.heap.size + 1 + 1, 2, none⟩ (.string n9)).setCell ⟨w.heap.size + 1 + 1, 3, none⟩ (.slice AL9 nl9 cl9)).setCell ⟨w.heap.size + 1 + 1, 4, none⟩ (.slice AK9 nk9 ck9)).drew.cell? ⟨w9.heap.size, 3, none⟩ = some (.slice AL9 nl9 cl9) ∧ (((((WA.setCell ⟨w.heap.size + 1 + 1, 0, none⟩ (.int .i64 k9)).setCell ⟨w.heap.size + 1 + 1, 1, none⟩ (.int .i64 i9)).setCell ⟨w.heap.size + 1 + 1, 2, none⟩ (.string n9)).setCell ⟨w.heap.size + 1 + 1, 3, none⟩ (.slice AL9 nl9 cl9)).setCell ⟨w.heap.size + 1 + 1, 4, none⟩ (.slice AK9 nk9 ck9)).drew.cell? ⟨w9.heap.size, 4, none⟩ = some (.slice AK9 nk9 ck9) ∧ (((((WA.setCell ⟨w.heap.size + 1 + 1, 0, none⟩ (.int .i64 k9)).setCell ⟨w.heap.size + 1 + 1, 1, none⟩ (.int .i64 i9)).setCell ⟨w.heap.size + 1 + 1, 2, none⟩ (.string n9)).setCell ⟨w.heap.size + 1 + 1, 3, none⟩ (.slice AL9 nl9 cl9)).setCell ⟨w.heap.size + 1 + 1, 4, none⟩ (.slice AK9 nk9 ck9)).drew.cell? ⟨w.heap.size + 1 + 1 + 1 + 1, 0, none⟩ = some (.int .i64 ((cpT (absP part) t 0).f : Nat)) from ⟨(drew_cell _ _).trans HSE.out.1, (drew_cell _ _).trans HSE.out.2.1, (drew_cell _ _).trans HSE.out.2.2.1, (drew_cell _ _).trans HSE.out.2.2.2.1, (drew_cell _ _).trans HSE.out.2.2.2.2.1, (drew_cell _ _).trans HSE.out.2.2.2.2.2⟩)
    have H5 := Lib.hid h5
    have H1 := Lib.hid h1
    have H2 := Lib.hid h2
    have HE := Lib.hid herr
    clear h5 h1 h2 hb9 ht9 herr hba hWA hfar htA hf0 hf9 bn HT
    go_wp2_with fail
    rw [← HWA.out]
    generalize (cpT (absP part) t 0).f = F at *
    clear HWA
    generalize w9.heap.size = nb at *
    obtain ⟨y0, y1, y2, y3, y4, f0, f1, f2, f3, f4⟩ := bA
    go_region_held3 (fun w' => w'.cell? ⟨nb, 0, none⟩ = some (.int .i64 k9) ∧ w'.cell? ⟨nb, 1, none⟩ = some (.int .i64 i9) ∧ w'.cell? ⟨nb, 2, none⟩ = some (.string n9) ∧ w'.cell? ⟨nb, 3, none⟩ = some (.slice AL9 nl9 cl9) ∧ w'.cell? ⟨nb, 4, none⟩ = some (.slice AK9 nk9 ck9) ∧ w'.cell? ⟨w.heap.size + 1 + 1 + 1 + 1, 0, none⟩ = some (.int .i64 F))
      (first | with_reducible exact HSD.out | with_reducible exact HS.out | with_reducible exact HSE.out | with_reducible exact HSX.out | (trace_state; fail))
      (fail)
    all_goals
      generalize ((((WA.setCell ⟨w.heap.size + 1 + 1, 0, none⟩ (.int .i64 k9)).setCell ⟨w.heap.size + 1 + 1, 1, none⟩ (.int .i64 i9)).setCell ⟨w.heap.size + 1 + 1, 2, none⟩ (.string n9)).setCell ⟨w.heap.size + 1 + 1, 3, none⟩ (.slice AL9 nl9 cl9)).setCell ⟨w.heap.size + 1 + 1, 4, none⟩ (.slice AK9 nk9 ck9) = w12 at H5 ⊢
      obtain ⟨u0, u1, u2, u3, u4, _, _, _, _, _⟩ := H5.out.1
      go_wp2_with fail
      exact bodyPost_ret (v := .tuple #[.agg #[.int .i64 k9, .int .i64 i9, .string n9, .slice AL9 nl9 cl9, .slice AK9 nk9 ck9], .int .i64 F, .int .i64 0]) (by simp [results, Tryd.results21, go_sem, u0, u1, u2, u3, u4]) rfl (by rw [HE.out, H1.out, H2.out]; first | exact H5.out.2 | exact H5.out.2.more (Below.refl _ _).drew)
end Go.Proofs.YtobaeeobfcffoaaDoor
