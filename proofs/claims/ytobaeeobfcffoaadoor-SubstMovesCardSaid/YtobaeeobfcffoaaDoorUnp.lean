/- Under and Subst of the program. -/
import Derived.Test.YtobaeeobfcffoaaDoorUnw
import Derived.Test.YtobaeeobfcffoaaDoorChp
namespace Go.Proofs.YtobaeeobfcffoaaDoor
open Go.RowKit
theorem enters_under1 (a : Array Value) (w : World) : (callFunc 33 a).run Tryd.prog w = .ok (.enter 33 a) w := by
  simp [go_sem]
/-- A counted walk: what is counted are the result's nodes. -/
def Cnt (R : Tm → Nat → Option Ou) : Prop := ∀ t d x, R t d = some x → x.e = 0 → x.n = szT x.t
mutual
theorem cp_sz {R : Tm → Nat → Option Ou} (hR : Cnt R) : ∀ (t : Tm) (d : Nat), (cpT R t d).e = 0 → (cpT R t d).n = szT (cpT R t d).t
  | .mk k i nm ls ks, d, h => by
    cases hr : R (.mk k i nm ls ks) d with
    | some x => rw [cpT_some hr] at h ⊢; exact hR _ _ _ hr h
    | none =>
      rw [cpT_none hr] at h ⊢
      show 1 + _ = szT (.mk _ _ _ _ _)
      rw [szT, cp_szL hR ks k d 0 h]
theorem cp_szL {R : Tm → Nat → Option Ou} (hR : Cnt R) : ∀ (ks : List Tm) (k : Int) (d j : Nat), (cpL R ks k d j).e = 0 → (cpL R ks k d j).n = szL (cpL R ks k d j).ts
  | [], _, _, _, _ => by rw [cpL, szL]
  | q :: r, k, d, j, h => by
    rw [cpL] at h ⊢
    have h2 := er_eq_zero.1 h
    show _ + _ = szL (_ :: _)
    rw [szL, cp_sz hR q _ h2.1, cp_szL hR r k d (j + 1) h2.2]
end
theorem szT_vr (i : Int) : szT (vr i) = 1 := by unfold vr; rw [szT, szL]
theorem cnt_sh (b f : Int) : Cnt (shR b f) := by
  intro t d x h _
  cases t with
  | mk k i nm ls ks =>
    simp only [shR] at h
    split at h
    · simp only [Option.some.injEq] at h; rw [← h]; exact (szT_vr _).symm
    · cases h
theorem cnt_und (vals : List Tm) (dep : Int) : Cnt (undR vals dep) := by
  intro t d x h he
  cases t with
  | mk k i nm ls ks =>
    simp only [undR] at h
    split at h
    · split at h
      · simp only [Option.some.injEq] at h; rw [← h] at he ⊢; exact cp_sz (cnt_sh _ _) _ _ he
      · simp only [Option.some.injEq] at h; rw [← h]; exact (szT_vr _).symm
    · cases h
def unE (vals : List Tm) (dep : Int) (t : Tm) : Int := if dep < 0 then 2 else if errO (cpT (undR vals dep) t 0) = 0 ∧ 200 < dpT (cpT (undR vals dep) t 0).t then 7 else errO (cpT (undR vals dep) t 0)
def unO (vals : List Tm) (dep : Int) (t : Tm) : Tm := if unE vals dep t = 0 then (cpT (undR vals dep) t 0).t else nilT
theorem GivesP.more {err : Int} {r : Tm} {S : Nat → Prop} {w w' w'' : World} {e : Ending} (h : GivesP err r S w e w') (hb : Below w'.heap.size w' w'') : GivesP err r S w e w'' := by
  obtain ⟨h1, k, i, nm, AL, nl, cl, AK, nk, ck, rfl, ht⟩ := h
  exact ⟨h1.trans (hb.mono h1.size), k, i, nm, AL, nl, cl, AK, nk, ck, rfl, TmP.mono (fun q h _ => h.1) _ _ (TmP.keep (S := fun q => S q ∧ q < w'.heap.size) (fun p hp => hb.cell hp.2) _ _ (TmP.mono (fun q h hl => ⟨h, hl⟩) _ _ ht))⟩
/-- A slice of terms. -/
def VsV (w : World) (B : Nat) (AV : Option Addr) (vals : List Tm) : Prop := vals.length * 80 ≤ 140737488355328 ∧ (0 < vals.length → ∃ b o, AV = some ⟨b, o, none⟩ ∧ b < B ∧ KsV w B b o vals)
theorem VsV.below {w w' : World} {B B' : Nat} {AV : Option Addr} {vals : List Tm} (h : VsV w B AV vals) (hb : Below B' w w') (hB : B ≤ B') : VsV w' B AV vals := ⟨h.1, fun hn => by
  obtain ⟨b, o, e, hbB, hk⟩ := h.2 hn
  exact ⟨b, o, e, hbB, KsV.keep (fun _ hp => hb.cell (by omega)) b hbB vals o hk⟩⟩

set_option maxRecDepth 100000 in
set_option maxHeartbeats 2000000 in
theorem under_any (t : Tm) (v : Value) (vals : List Tm) (AV : Option Addr) (cv : Nat) (dep : Int) (B : Nat) (w : World) (hv : TmV w B t v) (hvs : VsV w B AV vals) (hB : B ≤ w.heap.size) (hB0 : 0 < B) (hsh : ShapesB w) (hsz : szT t ≤ 1000000) (hq : AllT Qv t 0) (hvals : ∀ x ∈ vals, szT x ≤ 1000000 ∧ AllT Qv x 0) (hvl : vals.length ≤ 1000000) (hdep : dep ≤ 9223372036854775807) :
    Calls Tryd.prog 17 #[v, .slice AV vals.length cv, .int .i64 dep] w (GivesP (unE vals dep t) (unO vals dep t) (fun q => q < B ∨ w.heap.size ≤ q) w) := by
  have hv0 := TmP.open_ (TmP.of t v hv)
  obtain ⟨k, i, nm, AL, nl, cl, AK, nk, ck, rfl, _⟩ := hv0
  have HV := Lib.hid hv
  have HQ := Lib.hid hq
  have HVS := Lib.hid hvs
  clear hv hq hvs
  by_cases hbad : dep < 0
  · have e1 : unE vals dep t = 2 := by unfold unE; rw [if_pos hbad]
    have e2 : unO vals dep t = nilT := by unfold unO; rw [e1]; rfl
    rw [e1, e2]
    have d1 : decide (dep < 0) = true := decide_eq_true hbad
    clear e1 e2
    go_enter Tryd.func17, Tryd.ntmps17
    go_wp2
    have hb : Below w.heap.size w ((((w.alloc (.cells #[.int .i64 k, .int .i64 i, .string nm, .slice AL nl cl, .slice AK nk ck] 25)).alloc (.cells #[.slice AV vals.length cv] 23)).alloc (.cells #[.int .i64 dep] 3)).alloc (.cells #[.int .i64 0, .int .i64 0, .string ⟨#[]⟩, .slice none 0 0, .slice none 0 0] 25)) := ((((Below.refl _ _).alloc (Nat.le_refl _) _).alloc (by simp) _).alloc (by simp; omega) _).alloc (by simp; omega) _
    exact bodyPost_ret (v := .tuple #[zeroV, .int .i64 2]) (by simp [results, Tryd.results17, go_sem, zeroV]) rfl ⟨hb, _, _, _, _, _, _, _, _, _, rfl, tmP_vr' _ _ 0 none 0 none 0⟩
  · have d1 : decide (dep < 0) = false := decide_eq_false hbad
    have b0 := B5.new w (.int .i64 k) (.int .i64 i) (.string nm) (.slice AL nl cl) (.slice AK nk ck)
    have hb1 : Below w.heap.size w (w.alloc (.cells #[.int .i64 k, .int .i64 i, .string nm, .slice AL nl cl, .slice AK nk ck] 25)) := (Below.refl _ _).alloc (Nat.le_refl _) _
    have hb2 : Below w.heap.size w ((w.alloc (.cells #[.int .i64 k, .int .i64 i, .string nm, .slice AL nl cl, .slice AK nk ck] 25)).alloc (.cells #[.slice AV vals.length cv] 23)) := hb1.alloc (by simp) _
    have hb3 : Below w.heap.size w (((w.alloc (.cells #[.int .i64 k, .int .i64 i, .string nm, .slice AL nl cl, .slice AK nk ck] 25)).alloc (.cells #[.slice AV vals.length cv] 23)).alloc (.cells #[.int .i64 dep] 3)) := hb2.alloc (by simp; omega) _
    have hb4 : Below w.heap.size w ((((w.alloc (.cells #[.int .i64 k, .int .i64 i, .string nm, .slice AL nl cl, .slice AK nk ck] 25)).alloc (.cells #[.slice AV vals.length cv] 23)).alloc (.cells #[.int .i64 dep] 3)).alloc (.cells #[.int .i64 0, .int .i64 0, .string ⟨#[]⟩, .slice none 0 0, .slice none 0 0] 25)) := hb3.alloc (by simp; omega) _
    have hs3 : (((w.alloc (.cells #[.int .i64 k, .int .i64 i, .string nm, .slice AL nl cl, .slice AK nk ck] 25)).alloc (.cells #[.slice AV vals.length cv] 23)).alloc (.cells #[.int .i64 dep] 3)).heap.size = w.heap.size + 1 + 1 + 1 := by simp
    have hs4 : ((((w.alloc (.cells #[.int .i64 k, .int .i64 i, .string nm, .slice AL nl cl, .slice AK nk ck] 25)).alloc (.cells #[.slice AV vals.length cv] 23)).alloc (.cells #[.int .i64 dep] 3)).alloc (.cells #[.int .i64 0, .int .i64 0, .string ⟨#[]⟩, .slice none 0 0, .slice none 0 0] 25)).heap.size = w.heap.size + 1 + 1 + 1 + 1 := by simp
    have b6 : B5 (w.heap.size + 1 + 1 + 1) (.int .i64 0) (.int .i64 0) (.string ⟨#[]⟩) (.slice none 0 0) (.slice none 0 0) ((((w.alloc (.cells #[.int .i64 k, .int .i64 i, .string nm, .slice AL nl cl, .slice AK nk ck] 25)).alloc (.cells #[.slice AV vals.length cv] 23)).alloc (.cells #[.int .i64 dep] 3)).alloc (.cells #[.int .i64 0, .int .i64 0, .string ⟨#[]⟩, .slice none 0 0, .slice none 0 0] 25)) := by
      have h := B5.new (((w.alloc (.cells #[.int .i64 k, .int .i64 i, .string nm, .slice AL nl cl, .slice AK nk ck] 25)).alloc (.cells #[.slice AV vals.length cv] 23)).alloc (.cells #[.int .i64 dep] 3)) (.int .i64 0) (.int .i64 0) (.string ⟨#[]⟩) (.slice none 0 0) (.slice none 0 0)
      rw [hs3] at h
      exact h
    have hO : ∀ q, (q < B ∨ q = w.heap.size + 1 ∨ q = w.heap.size + 1 + 1) → q < ((((w.alloc (.cells #[.int .i64 k, .int .i64 i, .string nm, .slice AL nl cl, .slice AK nk ck] 25)).alloc (.cells #[.slice AV vals.length cv] 23)).alloc (.cells #[.int .i64 dep] 3)).alloc (.cells #[.int .i64 0, .int .i64 0, .string ⟨#[]⟩, .slice none 0 0, .slice none 0 0] 25)).heap.size := fun q h => by rw [hs4]; omega
    have hcd : ((((w.alloc (.cells #[.int .i64 k, .int .i64 i, .string nm, .slice AL nl cl, .slice AK nk ck] 25)).alloc (.cells #[.slice AV vals.length cv] 23)).alloc (.cells #[.int .i64 dep] 3)).alloc (.cells #[.int .i64 0, .int .i64 0, .string ⟨#[]⟩, .slice none 0 0, .slice none 0 0] 25)).cell? ⟨w.heap.size + 1 + 1, 0, none⟩ = some (.int .i64 dep) := by go_simp
    have hcv : ((((w.alloc (.cells #[.int .i64 k, .int .i64 i, .string nm, .slice AL nl cl, .slice AK nk ck] 25)).alloc (.cells #[.slice AV vals.length cv] 23)).alloc (.cells #[.int .i64 dep] 3)).alloc (.cells #[.int .i64 0, .int .i64 0, .string ⟨#[]⟩, .slice none 0 0, .slice none 0 0] 25)).cell? ⟨w.heap.size + 1, 0, none⟩ = some (.slice AV vals.length cv) := by go_simp
    have hvs4 := HVS.out.below hb4 hB
    have hbu := sbuild_any (W := ((((w.alloc (.cells #[.int .i64 k, .int .i64 i, .string nm, .slice AL nl cl, .slice AK nk ck] 25)).alloc (.cells #[.slice AV vals.length cv] 23)).alloc (.cells #[.int .i64 dep] 3)).alloc (.cells #[.int .i64 0, .int .i64 0, .string ⟨#[]⟩, .slice none 0 0, .slice none 0 0] 25))) (Old := fun q => q < B ∨ q = w.heap.size + 1 ∨ q = w.heap.size + 1 + 1) hO (Q := Qv) (R := undR vals dep) (cap := #[.pointer (some ⟨w.heap.size + 1 + 1, 0, none⟩), .pointer (some ⟨w.heap.size + 1, 0, none⟩)]) (fn := 33) (by
      intro k i nm AL cl ls AK ck ks d n f e w' hq hd ht hi hn
      refine under1_any (bldS _ _ hO) (pd := w.heap.size + 1 + 1) (pv := w.heap.size + 1) (dep := dep) (AV := AV) (cv := cv) (vals := vals) (fun {d n f e w'} h => ⟨(World.cell?_of_block (a := ⟨w.heap.size + 1 + 1, 0, none⟩) (h.2.2.2.2.2 _ (.inr (.inr rfl)))).trans hcd, (World.cell?_of_block (a := ⟨w.heap.size + 1, 0, none⟩) (h.2.2.2.2.2 _ (.inr (.inl rfl)))).trans hcv, .inr (.inr rfl), .inr (.inl rfl), fun hn => ?_⟩) hvals (by omega) hvl (d := d) hi hn k i nm AL ls.length cl AK ks.length ck ls ks (fun e => hq.here e) hd
      obtain ⟨b, o, e, hbB, hk⟩ := hvs4.2 hn
      exact ⟨b, o, e, .inl hbB, KsP.mono (fun q h _ => h) _ _ _ (KsP.keep (S := fun q => q < B ∨ q = w.heap.size + 1 ∨ q = w.heap.size + 1 + 1) (fun p hp => World.cell?_of_block (h.2.2.2.2.2 _ hp)) b (.inl hbB) _ _ (KsP.mono (fun q h _ => .inl h) _ _ _ (KsP.of b _ _ hk)))⟩) enters_under1 t hsz HQ.out (TmP.mono (fun q h _ => .inl h) _ _ (TmP.of t _ (HV.out.below hb4 hB)))
    have HBU := Lib.hid hbu
    have b0' : B5 w.heap.size (.int .i64 k) (.int .i64 i) (.string nm) (.slice AL nl cl) (.slice AK nk ck) ((((w.alloc (.cells #[.int .i64 k, .int .i64 i, .string nm, .slice AL nl cl, .slice AK nk ck] 25)).alloc (.cells #[.slice AV vals.length cv] 23)).alloc (.cells #[.int .i64 dep] 3)).alloc (.cells #[.int .i64 0, .int .i64 0, .string ⟨#[]⟩, .slice none 0 0, .slice none 0 0] 25)) := b0.nextB (((((Below.refl (w.heap.size + 1) (w.alloc (.cells #[.int .i64 k, .int .i64 i, .string nm, .slice AL nl cl, .slice AK nk ck] 25))).alloc (by simp) _).alloc (by first | (simp; done) | (simp; omega)) _).alloc (by first | (simp; done) | (simp; omega)) _)) (by omega)
    have HB4 := Lib.hid (And.intro hb4 (And.intro b6 hs4))
    obtain ⟨x0, x1, x2, x3, x4, _, _, _, _, _⟩ := b0'
    clear hbu b0 hb1 hb2 hb3 hb4 hs3 hs4 b6 hO hvs4 hcd hcv
    go_enter Tryd.func17, Tryd.ntmps17
    go_wp2_with fail
    refine (show Calls Tryd.prog 29 _ _ _ from HBU.out).mono ?_
    rintro e w9 ⟨hb9, k9, i9, n9, AL9, nl9, cl9, AK9, nk9, ck9, rfl, ht9⟩
    rw [HB4.out.2.2] at ht9
    have hw9 : Below w.heap.size w w9 := HB4.out.1.trans (hb9.mono (by rw [HB4.out.2.2]; omega))
    have b9 := HB4.out.2.1.next hb9
    have hb9a : Below w9.heap.size w9 (w9.alloc (.cells #[.int .i64 k9, .int .i64 i9, .string n9, .slice AL9 nl9 cl9, .slice AK9 nk9 ck9] 25)) := (Below.refl _ _).alloc (Nat.le_refl _) _
    have HB9 := Lib.hid (And.intro hw9 (And.intro b9 ht9))
    have hs9 : w.heap.size + 1 + 1 + 1 < w9.heap.size := b9.lt
    have ba := b9.next hb9a
    have hta : TmP (w9.alloc (.cells #[.int .i64 k9, .int .i64 i9, .string n9, .slice AL9 nl9 cl9, .slice AK9 nk9 ck9] 25)) (fun q => (q < B ∨ q = w.heap.size + 1 ∨ q = w.heap.size + 1 + 1) ∨ w.heap.size + 1 + 1 + 1 + 1 ≤ q) (resO (cpT (undR vals dep) t 0)) (.agg #[.int .i64 k9, .int .i64 i9, .string n9, .slice AL9 nl9 cl9, .slice AK9 nk9 ck9]) := TmP.mono (fun q h _ => h.1) _ _ (TmP.keep (S := fun q => ((q < B ∨ q = w.heap.size + 1 ∨ q = w.heap.size + 1 + 1) ∨ w.heap.size + 1 + 1 + 1 + 1 ≤ q) ∧ q < w9.heap.size) (fun p hp => hb9a.cell hp.2) _ _ (TmP.mono (fun q h hl => ⟨h, hl⟩) _ _ ht9))
    have HBA := Lib.hid (And.intro (hw9.trans (hb9a.mono hw9.size)) (And.intro ba hta))
    clear hb9 hw9 b9 hb9a hta ht9 HBU HB4 x0 x1 x2 x3 x4
    obtain ⟨y0, y1, y2, y3, y4, f0, f1, f2, f3, f4⟩ := ba
    obtain ⟨z0, z1, z2, z3, z4, g0, g1, g2, g3, g4⟩ := HB9.out.2.1
    have HEND := Lib.hid (show ∀ (W : World) (r : Tm) (k i : Int) (nm : ByteArray) (AL : Option Addr) (nl cl : Nat) (AK : Option Addr) (nk ck : Nat), Below w.heap.size w W → B5 (w.heap.size + 1 + 1 + 1) (.int .i64 0) (.int .i64 0) (.string ⟨#[]⟩) (.slice none 0 0) (.slice none 0 0) W → TmP W (fun q => (q < B ∨ q = w.heap.size + 1 ∨ q = w.heap.size + 1 + 1) ∨ w.heap.size + 1 + 1 + 1 + 1 ≤ q) r (.agg #[.int .i64 k, .int .i64 i, .string nm, .slice AL nl cl, .slice AK nk ck]) → B5 (w.heap.size + 1 + 1 + 1) (.int .i64 k) (.int .i64 i) (.string nm) (.slice AL nl cl) (.slice AK nk ck) (set5 W (w.heap.size + 1 + 1 + 1) 0 (.int .i64 k) (.int .i64 i) (.string nm) (.slice AL nl cl) (.slice AK nk ck)) ∧ ∀ err, GivesP err r (fun q => q < B ∨ w.heap.size ≤ q) w (.returned (.tuple #[.agg #[.int .i64 k, .int .i64 i, .string nm, .slice AL nl cl, .slice AK nk ck], .int .i64 err])) (set5 W (w.heap.size + 1 + 1 + 1) 0 (.int .i64 k) (.int .i64 i) (.string nm) (.slice AL nl cl) (.slice AK nk ck)) from fun W r k i nm AL nl cl AK nk ck hW hb ht => ⟨hb.put _ _ _ _ _, fun err => ⟨below_set5 hW (by omega) 0 _ _ _ _ _, _, _, _, _, _, _, _, _, _, rfl, TmP.mono (fun q h _ => by omega) _ _ (TmP.keep (fun p hp => set5_far (by rintro e; rw [e] at hp; omega)) _ _ ht)⟩⟩)
    by_cases herr : errO (cpT (undR vals dep) t 0) = 0
    · have h1 : resO (cpT (undR vals dep) t 0) = (cpT (undR vals dep) t 0).t := by unfold resO; rw [if_pos herr]
      have hxe : (cpT (undR vals dep) t 0).e = 0 := by unfold errO at herr; split at herr; omega; exact herr
      have hxn : (cpT (undR vals dep) t 0).n ≤ 4096 := by unfold errO at herr; split at herr; omega; omega
      have hxs : szT (cpT (undR vals dep) t 0).t ≤ 1000000000 := by rw [← cp_sz (cnt_und vals dep) t 0 hxe]; omega
      rw [h1] at HB9 HBA
      rw [herr]
      have h2 : unE vals dep t = if 200 < dpT (cpT (undR vals dep) t 0).t then 7 else 0 := by unfold unE; rw [if_neg (by omega)]; simp only [herr, true_and]
      have H2 := Lib.hid h2
      have H3 := Lib.hid (show unO vals dep t = if 200 < dpT (cpT (undR vals dep) t 0).t then nilT else (cpT (undR vals dep) t 0).t by unfold unO; rw [h2]; split <;> simp)
      clear h1 hxe hxn h2
      clear herr
      generalize (cpT (undR vals dep) t 0).t = r at *
      go_wp2_with fail
      have hsa : ShapesB (w9.alloc (.cells #[.int .i64 k9, .int .i64 i9, .string n9, .slice AL9 nl9 cl9, .slice AK9 nk9 ck9] 25)) := fun q hq => (HBA.out.1.cell (p := ⟨0, q * 5 + 4, none⟩) (by show 0 < _; omega)).trans (hsh q hq)
      refine (depth_any r _ (w9.alloc (.cells #[.int .i64 k9, .int .i64 i9, .string n9, .slice AL9 nl9 cl9, .slice AK9 nk9 ck9] 25)).heap.size _ HBA.out.2.2.tmV (Nat.le_refl _) (by simp) hsa hxs).mono ?_
      rintro e w11 ⟨rfl, hb11⟩
      have hc11 : Below w.heap.size w w11 := HBA.out.1.trans (hb11.mono HBA.out.1.size)
      have c6 := HBA.out.2.1.next hb11
      have c8 := (B5.new w9 (.int .i64 k9) (.int .i64 i9) (.string n9) (.slice AL9 nl9 cl9) (.slice AK9 nk9 ck9)).next hb11
      have ht11 : TmP w11 (fun q => (q < B ∨ q = w.heap.size + 1 ∨ q = w.heap.size + 1 + 1) ∨ w.heap.size + 1 + 1 + 1 + 1 ≤ q) r (.agg #[.int .i64 k9, .int .i64 i9, .string n9, .slice AL9 nl9 cl9, .slice AK9 nk9 ck9]) := TmP.mono (fun q h _ => h.1) _ _ (TmP.keep (S := fun q => ((q < B ∨ q = w.heap.size + 1 ∨ q = w.heap.size + 1 + 1) ∨ w.heap.size + 1 + 1 + 1 + 1 ≤ q) ∧ q < (w9.alloc (.cells #[.int .i64 k9, .int .i64 i9, .string n9, .slice AL9 nl9 cl9, .slice AK9 nk9 ck9] 25)).heap.size) (fun p hp => hb11.cell hp.2) _ _ (TmP.mono (fun q h hl => ⟨h, hl⟩) _ _ HBA.out.2.2))
      clear hsa y0 y1 y2 y3 y4 f0 f1 f2 f3 f4 z0 z1 z2 z3 z4 g0 g1 g2 g3 g4 hb11
      obtain ⟨y0, y1, y2, y3, y4, f0, f1, f2, f3, f4⟩ := c6
      obtain ⟨z0, z1, z2, z3, z4, g0, g1, g2, g3, g4⟩ := c8
      by_cases hdp : 200 < dpT r
      · have d2 : decide ((200 : Int) < (dpT r : Int)) = true := by rw [decide_eq_true_eq]; omega
        have h5 := HEND.out w11 nilT 0 0 ⟨#[]⟩ none 0 0 none 0 0 hc11 ⟨y0, y1, y2, y3, y4, f0, f1, f2, f3, f4⟩ (tmP_vr' _ _ 0 none 0 none 0)
        have h2 := H2.out
        have h3 := H3.out
        rw [if_pos hdp] at h2 h3
        unfold set5 at h5
        simp only [Nat.zero_add] at h5
        have H5 := Lib.hid h5
        clear h5 hdp hc11 ht11
        have H2' := Lib.hid h2
        have H3' := Lib.hid h3
        clear h2 h3 H2 H3
        go_wp2_with fail
        generalize (((((w11.setCell ⟨w.heap.size + 1 + 1 + 1, 0, none⟩ (.int .i64 0)).setCell ⟨w.heap.size + 1 + 1 + 1, 1, none⟩ (.int .i64 0)).setCell ⟨w.heap.size + 1 + 1 + 1, 2, none⟩ (.string ⟨#[]⟩)).setCell ⟨w.heap.size + 1 + 1 + 1, 3, none⟩ (.slice none 0 0)).setCell ⟨w.heap.size + 1 + 1 + 1, 4, none⟩ (.slice none 0 0)) = w12 at H5 ⊢
        obtain ⟨u0, u1, u2, u3, u4, _, _, _, _, _⟩ := H5.out.1
        exact bodyPost_ret (v := .tuple #[.agg #[.int .i64 0, .int .i64 0, .string ⟨#[]⟩, .slice none 0 0, .slice none 0 0], .int .i64 7]) (by simp [results, Tryd.results17, go_sem, u0, u1, u2, u3, u4]) rfl (by rw [H2'.out, H3'.out]; exact H5.out.2 7)
      · have d2 : decide ((200 : Int) < (dpT r : Int)) = false := by rw [decide_eq_false_iff_not]; omega
        have h5 := HEND.out w11 r k9 i9 n9 AL9 nl9 cl9 AK9 nk9 ck9 hc11 ⟨y0, y1, y2, y3, y4, f0, f1, f2, f3, f4⟩ ht11
        have h2 := H2.out
        have h3 := H3.out
        rw [if_neg hdp] at h2 h3
        unfold set5 at h5
        simp only [Nat.zero_add] at h5
        have H5 := Lib.hid h5
        clear h5 hdp hc11 ht11
        have H2' := Lib.hid h2
        have H3' := Lib.hid h3
        clear h2 h3 H2 H3
        go_wp2_with fail
        generalize (((((w11.setCell ⟨w.heap.size + 1 + 1 + 1, 0, none⟩ (.int .i64 k9)).setCell ⟨w.heap.size + 1 + 1 + 1, 1, none⟩ (.int .i64 i9)).setCell ⟨w.heap.size + 1 + 1 + 1, 2, none⟩ (.string n9)).setCell ⟨w.heap.size + 1 + 1 + 1, 3, none⟩ (.slice AL9 nl9 cl9)).setCell ⟨w.heap.size + 1 + 1 + 1, 4, none⟩ (.slice AK9 nk9 ck9)) = w12 at H5 ⊢
        obtain ⟨u0, u1, u2, u3, u4, _, _, _, _, _⟩ := H5.out.1
        exact bodyPost_ret (v := .tuple #[.agg #[.int .i64 k9, .int .i64 i9, .string n9, .slice AL9 nl9 cl9, .slice AK9 nk9 ck9], .int .i64 0]) (by simp [results, Tryd.results17, go_sem, u0, u1, u2, u3, u4]) rfl (by rw [H2'.out, H3'.out]; exact H5.out.2 0)
    · have h1 : resO (cpT (undR vals dep) t 0) = nilT := by unfold resO; rw [if_neg herr]
      have h2 : unE vals dep t = errO (cpT (undR vals dep) t 0) := by unfold unE; rw [if_neg (by omega), if_neg (fun e => herr e.1)]
      have h3 : unO vals dep t = nilT := by unfold unO; rw [h2, if_neg herr]
      rw [h1] at HB9 HBA
      have H2 := Lib.hid h2
      have H3 := Lib.hid h3
      clear h1 h2 h3
      have hbb : (errO (cpT (undR vals dep) t 0) == 0) = false := by simpa using herr
      generalize errO (cpT (undR vals dep) t 0) = er at *
      have h5 := HEND.out w9 nilT k9 i9 n9 AL9 nl9 cl9 AK9 nk9 ck9 HB9.out.1 HB9.out.2.1 HB9.out.2.2
      unfold set5 at h5
      simp only [Nat.zero_add] at h5
      have H5 := Lib.hid h5
      clear h5
      go_wp2_with fail
      generalize (((((w9.setCell ⟨w.heap.size + 1 + 1 + 1, 0, none⟩ (.int .i64 k9)).setCell ⟨w.heap.size + 1 + 1 + 1, 1, none⟩ (.int .i64 i9)).setCell ⟨w.heap.size + 1 + 1 + 1, 2, none⟩ (.string n9)).setCell ⟨w.heap.size + 1 + 1 + 1, 3, none⟩ (.slice AL9 nl9 cl9)).setCell ⟨w.heap.size + 1 + 1 + 1, 4, none⟩ (.slice AK9 nk9 ck9)) = w12 at H5 ⊢
      have c5 := H5.out.1.next ((Below.refl _ _).alloc (Nat.le_refl _) (.cells #[.int .i64 k9, .int .i64 i9, .string n9, .slice AL9 nl9 cl9, .slice AK9 nk9 ck9] 25))
      obtain ⟨u0, u1, u2, u3, u4, _, _, _, _, _⟩ := c5
      obtain ⟨v0, v1, v2, v3, v4, _, _, _, _, _⟩ := H5.out.1
      exact bodyPost_ret (v := .tuple #[.agg #[.int .i64 k9, .int .i64 i9, .string n9, .slice AL9 nl9 cl9, .slice AK9 nk9 ck9], .int .i64 er]) (by simp [results, Tryd.results17, go_sem, u0, u1, u2, u3, u4]) rfl (by rw [H2.out, H3.out]; exact (H5.out.2 er).more ((Below.refl _ _).alloc (Nat.le_refl _) _))

theorem GivesP.tmv {err : Int} {r : Tm} {S : Nat → Prop} {w w' : World} {e : Ending} (h : GivesP err r S w e w') : GivesT err r w e w' := by
  obtain ⟨h1, k, i, nm, AL, nl, cl, AK, nk, ck, rfl, ht⟩ := h
  exact ⟨h1, k, i, nm, AL, nl, cl, AK, nk, ck, rfl, ht.tmV⟩
set_option maxRecDepth 100000 in
set_option maxHeartbeats 2000000 in
theorem subst_any (t : Tm) (v : Value) (vals : List Tm) (AV : Option Addr) (cv : Nat) (B : Nat) (w : World) (hv : TmV w B t v) (hvs : VsV w B AV vals) (hB : B ≤ w.heap.size) (hB0 : 0 < B) (hsh : ShapesB w) (hsz : szT t ≤ 1000000) (hq : AllT Qv t 0) (hvals : ∀ x ∈ vals, szT x ≤ 1000000 ∧ AllT Qv x 0) (hvl : vals.length ≤ 1000000) :
    Calls Tryd.prog 15 #[v, .slice AV vals.length cv] w (GivesP (unE vals 0 t) (unO vals 0 t) (fun q => q < B ∨ w.heap.size ≤ q) w) := by
  have hv0 := TmP.open_ (TmP.of t v hv)
  obtain ⟨k, i, nm, AL, nl, cl, AK, nk, ck, rfl, _⟩ := hv0
  have b1 := B5.new (w.alloc (.cells #[.int .i64 k, .int .i64 i, .string nm, .slice AL nl cl, .slice AK nk ck] 25)) (.int .i64 0) (.int .i64 0) (.string ⟨#[]⟩) (.slice none 0 0) (.slice none 0 0)
  simp only [World.size_alloc] at b1
  have hb : Below w.heap.size w ((w.alloc (.cells #[.int .i64 k, .int .i64 i, .string nm, .slice AL nl cl, .slice AK nk ck] 25)).alloc (.cells #[.int .i64 0, .int .i64 0, .string ⟨#[]⟩, .slice none 0 0, .slice none 0 0] 25)) := ((Below.refl _ _).alloc (Nat.le_refl _) _).alloc (by simp) _
  have HU := Lib.hid (under_any t _ vals AV cv 0 B _ (hv.below hb hB) (hvs.below hb hB) (by simp; omega) hB0 (fun q hq => (hb.cell (p := ⟨0, q * 5 + 4, none⟩) (by show 0 < _; omega)).trans (hsh q hq)) hsz hq hvals hvl (by omega))
  have HB1 := Lib.hid (And.intro hb b1)
  clear hv hvs hb b1 hsh
  go_enter Tryd.func15, Tryd.ntmps15
  go_wp2_with fail
  refine (show Calls Tryd.prog 17 _ _ _ from HU.out).mono ?_
  rintro e w9 ⟨hb9, k9, i9, n9, AL9, nl9, cl9, AK9, nk9, ck9, rfl, ht9⟩
  have b9 := HB1.out.2.next hb9
  have hw9 : Below w.heap.size w w9 := HB1.out.1.trans (hb9.mono (by simp; omega))
  have h5 := And.intro (b9.put (.int .i64 k9) (.int .i64 i9) (.string n9) (.slice AL9 nl9 cl9) (.slice AK9 nk9 ck9)) (And.intro (below_set5 hw9 (b := w.heap.size + 1) (by omega) 0 (.int .i64 k9) (.int .i64 i9) (.string n9) (.slice AL9 nl9 cl9) (.slice AK9 nk9 ck9)) (TmP.mono (S' := (fun q => q < B ∨ w.heap.size ≤ q)) (fun q h _ => by simp at h; omega) _ _ (TmP.keep (fun p hp => set5_far (w := w9) (b := w.heap.size + 1) (o := 0) (v0 := .int .i64 k9) (v1 := .int .i64 i9) (v2 := .string n9) (v3 := .slice AL9 nl9 cl9) (v4 := .slice AK9 nk9 ck9) (by rintro e; rw [e] at hp; simp at hp; omega)) _ _ ht9)))
  unfold set5 at h5
  simp only [Nat.zero_add] at h5
  have H5 := Lib.hid h5
  obtain ⟨y0, y1, y2, y3, y4, f0, f1, f2, f3, f4⟩ := b9
  clear h5 hw9 hb9 ht9 HU HB1
  go_wp2_with fail
  generalize (((((w9.setCell ⟨w.heap.size + 1, 0, none⟩ (.int .i64 k9)).setCell ⟨w.heap.size + 1, 1, none⟩ (.int .i64 i9)).setCell ⟨w.heap.size + 1, 2, none⟩ (.string n9)).setCell ⟨w.heap.size + 1, 3, none⟩ (.slice AL9 nl9 cl9)).setCell ⟨w.heap.size + 1, 4, none⟩ (.slice AK9 nk9 ck9)) = w12 at H5 ⊢
  obtain ⟨u0, u1, u2, u3, u4, _, _, _, _, _⟩ := H5.out.1
  exact bodyPost_ret (v := .tuple #[.agg #[.int .i64 k9, .int .i64 i9, .string n9, .slice AL9 nl9 cl9, .slice AK9 nk9 ck9], .int .i64 (unE vals 0 t)]) (by simp [results, Tryd.results15, go_sem, u0, u1, u2, u3, u4]) rfl ⟨H5.out.2.1, _, _, _, _, _, _, _, _, _, rfl, H5.out.2.2⟩
end Go.Proofs.YtobaeeobfcffoaaDoor
