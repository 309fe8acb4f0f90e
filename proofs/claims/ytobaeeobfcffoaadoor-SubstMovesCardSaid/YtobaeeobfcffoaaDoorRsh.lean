/- The reference's shift. -/
import Derived.Test.YtobaeeobfcffoaaDoorRsl
import Derived.Test.YtobaeeobfcffoaaDoorRck
import Derived.RegionTactic
namespace Go.Proofs.YtobaeeobfcffoaaDoor
open Go.RowKit
theorem drop_cp (R : Tm → Nat → Option Ou) {ks : List Tm} {k : Int} {d j : Nat} (hj : j < ks.length) : (cpL R (ks.drop j) k d j).e = er (cpT R ks[j] (d + bbN k j)).e (cpL R (ks.drop (j + 1)) k d (j + 1)).e ∧ (cpL R (ks.drop j) k d j).ts = (cpT R ks[j] (d + bbN k j)).t :: (cpL R (ks.drop (j + 1)) k d (j + 1)).ts := by
  rw [← List.getElem_cons_drop hj, cpL]
  exact ⟨rfl, rfl⟩
/-- What the reference's shift leaves. -/
def RsP (pw B : Nat) (e0 n : Int) (x : Ou) (w : World) (e : Ending) (w' : World) : Prop :=
  Kp (MP pw) w w' ∧ WkS pw (er e0 x.e) n w' ∧ ∃ rk ri rn rAL rnl rcl rAK rnk rck, e = .returned (.agg #[.int .i64 rk, .int .i64 ri, .string rn, .slice rAL rnl rcl, .slice rAK rnk rck]) ∧ TmP w' (fun q => (q < B ∨ w.heap.size ≤ q) ∧ q ≠ pw) x.t (.agg #[.int .i64 rk, .int .i64 ri, .string rn, .slice rAL rnl rcl, .slice rAK rnk rck])
theorem RS.done {w0 : World} {pw B : Nat} {k i : Int} {nm : ByteArray} {AL : Option Addr} {nl cl : Nat} {AK : Option Addr} {nk ck : Nat} {e n : Int} {ts : List Tm} {us : List Value} {v : Value} {w : World} (h : RS w0 pw B k i nm AL nl cl AK nk ck e n ts us v w) (hp : pw < w0.heap.size) (hB : B ≤ w0.heap.size) {t : Tm} {rk ri : Int} {rn : ByteArray} {rAL : Option Addr} {rnl rcl : Nat} {rAK : Option Addr} {rnk rck : Nat} (ht : TmP w (fun q => (q < B ∨ w0.heap.size + 2 ≤ q) ∧ q ≠ pw) t (.agg #[.int .i64 rk, .int .i64 ri, .string rn, .slice rAL rnl rcl, .slice rAK rnk rck])) :
    B5 (w0.heap.size + 1) (.int .i64 rk) (.int .i64 ri) (.string rn) (.slice rAL rnl rcl) (.slice rAK rnk rck) (set5 w (w0.heap.size + 1) 0 (.int .i64 rk) (.int .i64 ri) (.string rn) (.slice rAL rnl rcl) (.slice rAK rnk rck)) ∧ Kp (MP pw) w0 (set5 w (w0.heap.size + 1) 0 (.int .i64 rk) (.int .i64 ri) (.string rn) (.slice rAL rnl rcl) (.slice rAK rnk rck)) ∧ WkS pw e n (set5 w (w0.heap.size + 1) 0 (.int .i64 rk) (.int .i64 ri) (.string rn) (.slice rAL rnl rcl) (.slice rAK rnk rck)) ∧
    TmP (set5 w (w0.heap.size + 1) 0 (.int .i64 rk) (.int .i64 ri) (.string rn) (.slice rAL rnl rcl) (.slice rAK rnk rck)) (fun q => (q < B ∨ w0.heap.size ≤ q) ∧ q ≠ pw) t (.agg #[.int .i64 rk, .int .i64 ri, .string rn, .slice rAL rnl rcl, .slice rAK rnk rck]) := by
  refine ⟨h.br.put _ _ _ _ _, ((((h.kp.ownP (by omega) _ _).ownP (by omega) _ _).ownP (by omega) _ _).ownP (by omega) _ _).ownP (by omega) _ _, h.wk.kp (set5_heap (by omega)), TmP.mono (fun q h _ => ⟨h.1.imp id (fun h => by omega), h.2⟩) _ _ (TmP.keep (fun p hp' => set5_far (by rintro e; rw [e] at hp'; omega)) _ _ ht)⟩
/-- The kids, put into the node. -/
theorem RS.kids {w0 : World} {pw B : Nat} {k i : Int} {nm : ByteArray} {AL : Option Addr} {nl cl : Nat} {AK : Option Addr} {nk ck : Nat} {e n : Int} {ts : List Tm} {us : List Value} {A : Option Addr} {m c : Nat} {w : World} (h : RS w0 pw B k i nm AL nl cl AK nk ck e n ts us (.slice A m c) w) (hp : pw < w0.heap.size) (hB : B ≤ w0.heap.size) : RS w0 pw B k i nm AL nl cl A m c e n ts us (.slice A m c) (w.setCell ⟨w0.heap.size, 4, none⟩ (.slice A m c)) := by
  have hf : ∀ j, w.frozen? ⟨w0.heap.size, j, none⟩ = false → (w.setCell ⟨w0.heap.size, 4, none⟩ (.slice A m c)).frozen? ⟨w0.heap.size, j, none⟩ = false := fun j h => by go_simp
  have hbl : ∀ q, q ≠ w0.heap.size → (w.setCell ⟨w0.heap.size, 4, none⟩ (.slice A m c)).heap[q]? = w.heap[q]? := fun q hq => Below.heap_setCell _ _ _ _ hq
  have hb1 := hbl (w0.heap.size + 1) (by omega)
  refine ⟨⟨set_other h.bx.x0 (by decide), set_other h.bx.x1 (by decide), set_other h.bx.x2 (by decide), set_other h.bx.x3 (by decide), set_same h.bx.x4, hf 0 h.bx.f0, hf 1 h.bx.f1, hf 2 h.bx.f2, hf 3 h.bx.f3, hf 4 h.bx.f4⟩, ?_, h.kp.ownP (Nat.le_refl _) _ _, h.wk.kp (hbl _ (by omega)), ⟨h.own.1, h.own.2.imp id fun ⟨g, cap, cur, hv, hg, hh, r⟩ => ⟨g, cap, cur, hv, hg, (hbl g (by omega)).trans hh, r⟩⟩, h.rd.keep (fun p hp' _ => World.cell?_of_block (w := w) (hbl _ (by omega))) (fun q hq _ => hq)⟩
  exact ⟨(World.cell?_of_block (w := w) (a := ⟨w0.heap.size + 1, 0, none⟩) hb1).trans h.br.x0, (World.cell?_of_block (w := w) (a := ⟨w0.heap.size + 1, 1, none⟩) hb1).trans h.br.x1, (World.cell?_of_block (w := w) (a := ⟨w0.heap.size + 1, 2, none⟩) hb1).trans h.br.x2, (World.cell?_of_block (w := w) (a := ⟨w0.heap.size + 1, 3, none⟩) hb1).trans h.br.x3, (World.cell?_of_block (w := w) (a := ⟨w0.heap.size + 1, 4, none⟩) hb1).trans h.br.x4, (World.frozen?_of_block (w := w) (a := ⟨w0.heap.size + 1, 0, none⟩) hb1).trans h.br.f0, (World.frozen?_of_block (w := w) (a := ⟨w0.heap.size + 1, 1, none⟩) hb1).trans h.br.f1, (World.frozen?_of_block (w := w) (a := ⟨w0.heap.size + 1, 2, none⟩) hb1).trans h.br.f2, (World.frozen?_of_block (w := w) (a := ⟨w0.heap.size + 1, 3, none⟩) hb1).trans h.br.f3, (World.frozen?_of_block (w := w) (a := ⟨w0.heap.size + 1, 4, none⟩) hb1).trans h.br.f4⟩
theorem RS.node {w0 : World} {pw B : Nat} {k i : Int} {nm : ByteArray} {AL : Option Addr} {cl : Nat} {AK : Option Addr} {nk ck : Nat} {e n : Int} {ts : List Tm} {us : List Value} {A : Option Addr} {c : Nat} {w : World} {ls : List (Int × List (Int × Int))} (h : RS w0 pw B k i nm AL ls.length cl AK nk ck e n ts us (.slice A ts.length c) w) (hp : pw < w0.heap.size) (hz : ts.length * 80 ≤ 140737488355328) (hls : LvsP w0 (fun q => q < B ∧ q ≠ pw) AL ls) : TmP w (fun q => (q < B ∨ w0.heap.size + 2 ≤ q) ∧ q ≠ pw) (.mk k i nm ls ts) (.agg #[.int .i64 k, .int .i64 i, .string nm, .slice AL ls.length cl, .slice A ts.length c]) := by
  rw [TmP]
  refine ⟨AL, cl, A, c, rfl, ?_, hz, fun hn => ?_⟩
  · exact ((hls.mono (S' := fun q => (q < B ∧ q ≠ pw) ∧ q < w0.heap.size) (fun q h hl => ⟨h, hl⟩)).keep (fun p hp' => h.kp.cell hp'.2 hp'.1.2)).mono (fun q hq _ => ⟨.inl hq.1.1, hq.1.2⟩)
  · have ho := h.own
    rcases ho.2 with ⟨_, h0⟩ | ⟨g, cap, cur, hv, hg, _⟩
    · omega
    · simp only [Value.slice.injEq] at hv
      obtain ⟨rfl, _, rfl⟩ := hv
      refine ⟨g, 0, rfl, ⟨.inr hg, by omega⟩, KsP.mono (fun q hq _ => ⟨hq.1, hq.2.1⟩) _ _ _ (h.rd.ksP (fun j u hu => ?_))⟩
      have := ho.cells (g := g) rfl j u hu
      rw [Addr.add_lit, Nat.zero_add] at this
      rw [Nat.zero_add]
      exact this
/-- The loop's start. -/
theorem RS.start {w : World} {pw B : Nat} (k i : Int) (nm : ByteArray) (AL : Option Addr) (nl cl : Nat) (AK : Option Addr) (nk ck : Nat) {e n : Int} (hw : WkS pw e n w) : RS w pw B k i nm AL nl cl AK nk ck e n [] [] (.slice none 0 0) ((w.alloc (.cells #[.int .i64 k, .int .i64 i, .string nm, .slice AL nl cl, .slice AK nk ck] 25)).alloc (.cells #[.int .i64 0, .int .i64 0, .string ⟨#[]⟩, .slice none 0 0, .slice none 0 0] 25)) := by
  have hb : Below w.heap.size w ((w.alloc (.cells #[.int .i64 k, .int .i64 i, .string nm, .slice AL nl cl, .slice AK nk ck] 25)).alloc (.cells #[.int .i64 0, .int .i64 0, .string ⟨#[]⟩, .slice none 0 0, .slice none 0 0] 25)) := ((Below.refl _ _).alloc (Nat.le_refl _) _).alloc (by simp) _
  have b1 := B5.new (w.alloc (.cells #[.int .i64 k, .int .i64 i, .string nm, .slice AL nl cl, .slice AK nk ck] 25)) (.int .i64 0) (.int .i64 0) (.string ⟨#[]⟩) (.slice none 0 0) (.slice none 0 0)
  rw [World.size_alloc] at b1
  exact ⟨(B5.new w _ _ _ _ _).next ((Below.refl _ _).alloc (Nat.le_refl _) _), b1, (Kp.refl _ _).newP hb, hw.next hb, ⟨rfl, .inl ⟨rfl, rfl⟩⟩, rfl⟩
set_option maxRecDepth 100000 in
set_option maxHeartbeats 8000000 in
theorem rshift_any (by_ fr : Int) (hby : -1000000 ≤ by_ ∧ by_ ≤ 1000000) (hfr : 0 ≤ fr ∧ fr ≤ 65536) : ∀ (N : Nat) (t : Tm) (v : Value) (d B pw : Nat) (e0 n : Int) (w : World), szT t ≤ N → d + N ≤ 1000000000 → AllT Qv t d → TmP w (fun q => q < B ∧ q ≠ pw) t v → B ≤ w.heap.size → WkS pw e0 n w →
    Calls Tryd.prog 31 #[.pointer (some ⟨pw, 0, none⟩), v, .int .i64 by_, .int .i64 fr, .int .i64 (d : Int)] w (RsP pw B e0 n (cpT (rfR by_ fr) t d) w) := by
  intro N
  induction N with
  | zero => intro t v d B pw e0 n w h; have := szT_pos t; omega
  | succ N ih =>
  intro t v d B pw e0 n w hsz hdN hq hv hB hw
  have hv0 := hv
  cases t with
  | mk k i nm ls ks =>
  rw [TmP] at hv
  obtain ⟨AL, cl, AK, ck, rfl, hls, hz, hks⟩ := hv
  have hpw := hw.lt
  have hR0 := RS.start (B := B) k i nm AL ls.length cl AK ks.length ck hw
  have hQ := hq.here
  have HQ := Lib.hid hq
  have HV := Lib.hid hv0
  have HLS := Lib.hid hls
  have HKS := Lib.hid hks
  have IH := Lib.hid ih
  have HSZ := Lib.hid hsz
  have HW0 := Lib.hid hw
  clear ih hq hv0 hls hks hw hsz
  by_cases hk : k = 0
  · have hi := hQ hk
    subst hk
    have HT := Lib.hid (show ∀ (e1 : Int) (ts : List Tm) (us : List Value) (sv : Value) (W : World), RS w pw B 0 i nm AL ls.length cl AK ks.length ck e1 n ts us sv W → TmP W (fun q => (q < B ∨ w.heap.size + 2 ≤ q) ∧ q ≠ pw) (.mk 0 i nm ls ks) (.agg #[.int .i64 0, .int .i64 i, .string nm, .slice AL ls.length cl, .slice AK ks.length ck]) from fun e1 ts us sv W h => TmP.mono (fun q h _ => ⟨.inl h.1, h.2⟩) _ _ (tmP_kp HV.out h.kp (fun q h => h.2)))
    by_cases h1 : i < fr + d
    · have HX := Lib.hid (show cpT (rfR by_ fr) (.mk 0 i nm ls ks) d = ⟨1, 0, 0, .mk 0 i nm ls ks⟩ from cpT_some (by show (if (0 : Int) = 0 then some (if i < fr + d then (⟨1, 0, 0, .mk 0 i nm ls ks⟩ : Ou) else if i + by_ < fr + d then ⟨1, 0, 24, .mk 0 i nm ls ks⟩ else ⟨1, 0, big (i + by_), vr (i + by_)⟩) else none) = _; rw [if_pos rfl, if_pos h1]))
      have d1 : decide (i < fr + (d : Int)) = true := decide_eq_true h1
      have hb2 : Below w.heap.size w ((w.alloc (.cells #[.int .i64 0, .int .i64 i, .string nm, .slice AL ls.length cl, .slice AK ks.length ck] 25)).alloc (.cells #[.int .i64 0, .int .i64 i, .string nm, .slice AL ls.length cl, .slice AK ks.length ck] 25)) := ((Below.refl _ _).alloc (Nat.le_refl _) _).alloc (by simp) _
      have HE := Lib.hid (show RsP pw B e0 n ⟨1, 0, 0, .mk 0 i nm ls ks⟩ w (.returned (.agg #[.int .i64 0, .int .i64 i, .string nm, .slice AL ls.length cl, .slice AK ks.length ck])) ((w.alloc (.cells #[.int .i64 0, .int .i64 i, .string nm, .slice AL ls.length cl, .slice AK ks.length ck] 25)).alloc (.cells #[.int .i64 0, .int .i64 i, .string nm, .slice AL ls.length cl, .slice AK ks.length ck] 25)) from ⟨(Kp.refl _ _).newP hb2, by rw [er_zero_right]; exact HW0.out.next hb2, _, _, _, _, _, _, _, _, _, rfl, TmP.mono (fun q h _ => ⟨.inl h.1, h.2⟩) _ _ (tmP_kp HV.out ((Kp.refl (MP pw) w).newP hb2) (fun q h => h.2))⟩)
      clear hb2 hR0 HT
      go_enter Tryd.func31, Tryd.ntmps31
      go_wp2_with fail
      exact bodyPost_ret (v := .agg #[.int .i64 0, .int .i64 i, .string nm, .slice AL ls.length cl, .slice AK ks.length ck]) (by simp [results, Tryd.results31, go_sem]) rfl (by rw [HX.out]; exact HE.out)
    · have d1 : decide (i < fr + (d : Int)) = false := decide_eq_false h1
      have HR0 := Lib.hid hR0
      by_cases h2 : i + by_ < fr + d
      · have HX := Lib.hid (show cpT (rfR by_ fr) (.mk 0 i nm ls ks) d = ⟨1, 0, 24, .mk 0 i nm ls ks⟩ from cpT_some (by show (if (0 : Int) = 0 then some (if i < fr + d then (⟨1, 0, 0, .mk 0 i nm ls ks⟩ : Ou) else if i + by_ < fr + d then ⟨1, 0, 24, .mk 0 i nm ls ks⟩ else ⟨1, 0, big (i + by_), vr (i + by_)⟩) else none) = _; rw [if_pos rfl, if_neg h1, if_pos h2]))
        have d2 : decide (i + by_ < fr + (d : Int)) = true := decide_eq_true h2
        clear hR0
        go_enter Tryd.func31, Tryd.ntmps31
        go_wp2_with fail
        refine (rfail_any pw e0 n 24 _ HR0.out.wk).mono ?_
        rintro e w1 ⟨rfl, hk1, hw1, _, _⟩
        have HR1 := Lib.hid (HR0.out.next hpw hk1 hw1)
        have hd := HR1.out.done hpw hB (HT.out _ _ _ _ _ HR1.out)
        unfold set5 at hd
        simp only [Nat.zero_add] at hd
        have HD := Lib.hid hd
        clear hd hk1 hw1 HT
        obtain ⟨y0, y1, y2, y3, y4, _, _, _, _, _⟩ := HR1.out.bx
        obtain ⟨z0, z1, z2, z3, z4, g0, g1, g2, g3, g4⟩ := HR1.out.br
        have hlt1 := HR1.out.br.lt
        go_wp2_with fail
        generalize (((((w1.setCell ⟨w.heap.size + 1, 0, none⟩ (.int .i64 0)).setCell ⟨w.heap.size + 1, 1, none⟩ (.int .i64 i)).setCell ⟨w.heap.size + 1, 2, none⟩ (.string nm)).setCell ⟨w.heap.size + 1, 3, none⟩ (.slice AL ls.length cl)).setCell ⟨w.heap.size + 1, 4, none⟩ (.slice AK ks.length ck)) = w3 at HD ⊢
        clear z0 z1 z2 z3 z4 g0 g1 g2 g3 g4
        obtain ⟨z0, z1, z2, z3, z4, g0, g1, g2, g3, g4⟩ := HD.out.1
        exact bodyPost_ret (v := .agg #[.int .i64 0, .int .i64 i, .string nm, .slice AL ls.length cl, .slice AK ks.length ck]) (by simp [results, Tryd.results31, go_sem, z0, z1, z2, z3, z4]) rfl (by rw [HX.out]; exact ⟨HD.out.2.1, HD.out.2.2.1, _, _, _, _, _, _, _, _, _, rfl, HD.out.2.2.2⟩)
      · have HX := Lib.hid (show cpT (rfR by_ fr) (.mk 0 i nm ls ks) d = ⟨1, 0, big (i + by_), vr (i + by_)⟩ from cpT_some (by show (if (0 : Int) = 0 then some (if i < fr + d then (⟨1, 0, 0, .mk 0 i nm ls ks⟩ : Ou) else if i + by_ < fr + d then ⟨1, 0, 24, .mk 0 i nm ls ks⟩ else ⟨1, 0, big (i + by_), vr (i + by_)⟩) else none) = _; rw [if_pos rfl, if_neg h1, if_neg h2]))
        have d2 : decide (i + by_ < fr + (d : Int)) = false := decide_eq_false h2
        clear hR0
        go_enter Tryd.func31, Tryd.ntmps31
        go_wp2_with fail
        refine (rvar_any pw e0 n (i + by_) _ HR0.out.wk).mono ?_
        rintro e w1 ⟨rfl, hk1, hw1⟩
        have HR1 := Lib.hid (HR0.out.next hpw hk1 hw1)
        have hd := HR1.out.done hpw hB (t := vr (i + by_)) (tmP_vr' _ _ _ none 0 none 0)
        unfold set5 at hd
        simp only [Nat.zero_add] at hd
        have HD := Lib.hid hd
        clear hd hk1 hw1 HT
        obtain ⟨z0, z1, z2, z3, z4, g0, g1, g2, g3, g4⟩ := HR1.out.br
        have hlt1 := HR1.out.br.lt
        go_wp2_with fail
        generalize (((((w1.setCell ⟨w.heap.size + 1, 0, none⟩ (.int .i64 0)).setCell ⟨w.heap.size + 1, 1, none⟩ (.int .i64 (i + by_))).setCell ⟨w.heap.size + 1, 2, none⟩ (.string ⟨#[]⟩)).setCell ⟨w.heap.size + 1, 3, none⟩ (.slice none 0 0)).setCell ⟨w.heap.size + 1, 4, none⟩ (.slice none 0 0)) = w3 at HD ⊢
        clear z0 z1 z2 z3 z4 g0 g1 g2 g3 g4
        obtain ⟨z0, z1, z2, z3, z4, g0, g1, g2, g3, g4⟩ := HD.out.1
        exact bodyPost_ret (v := .agg #[.int .i64 0, .int .i64 (i + by_), .string ⟨#[]⟩, .slice none 0 0, .slice none 0 0]) (by simp [results, Tryd.results31, go_sem, z0, z1, z2, z3, z4]) rfl (by rw [HX.out]; exact ⟨HD.out.2.1, HD.out.2.2.1, _, _, _, _, _, _, _, _, _, rfl, HD.out.2.2.2⟩)
  · have dk : (k == 0) = false := by simpa using hk
    have HX := Lib.hid (show cpT (rfR by_ fr) (.mk k i nm ls ks) d = ⟨1 + (cpL (rfR by_ fr) ks k d 0).n, (cpL (rfR by_ fr) ks k d 0).f, (cpL (rfR by_ fr) ks k d 0).e, .mk k i nm ls (cpL (rfR by_ fr) ks k d 0).ts⟩ from cpT_none (by simp only [rfR]; rw [if_neg hk]))
    have HR0 := Lib.hid hR0
    obtain ⟨i0, hi, hz0, hz1, hz2⟩ := info_parts infoTm
    clear hR0
    go_enter Tryd.func31, Tryd.ntmps31
    go_wp2_with fail
    generalize hW2 : (w.alloc (.cells #[.int .i64 k, .int .i64 i, .string nm, .slice AL ls.length cl, .slice AK ks.length ck] 25)).alloc (.cells #[.int .i64 0, .int .i64 0, .string ⟨#[]⟩, .slice none 0 0, .slice none 0 0] 25) = W2 at HR0 ⊢
    clear hW2
    go_loopw [11, 12] (fun s11 s12 wx => ∃ (j : Nat) (ts : List Tm) (us : List Value) (ea : Int) (sv : Value), sv = s11 ∧ j ≤ ks.length ∧ s12 = .int .i64 (j : Int) ∧ Hid (ts.length = j) ∧ Hid (er ea (cpL (rfR by_ fr) (ks.drop j) k d j).e = (cpL (rfR by_ fr) ks k d 0).e ∧ ts ++ (cpL (rfR by_ fr) (ks.drop j) k d j).ts = (cpL (rfR by_ fr) ks k d 0).ts) ∧ Hid (RS w pw B k i nm AL ls.length cl AK ks.length ck (er e0 ea) n ts us sv wx)) (fun _ s12 _ => ks.length - (intOf s12).toNat)
    case atStart => exact ⟨0, [], [], 0, _, rfl, Nat.zero_le _, rfl, Lib.hid rfl, Lib.hid ⟨er_zero _, rfl⟩, Lib.hid (by rw [er_zero_right]; exact HR0.out)⟩
    case round =>
      obtain ⟨j, ts, us, ea, sv, hsv, hj, rfl, hlen, HJ, HRS⟩ := hrel
      subst hsv
      clear HR0
      obtain ⟨y0, y1, y2, y3, y4, f0, f1, f2, f3, f4⟩ := HRS.out.bx
      by_cases hjl : j < ks.length
      · obtain ⟨kb, ko, rfl, hkS, hkc⟩ := HKS.out (by omega)
        obtain ⟨c0, c1, c2, c3, c4, u0, u1, u2, u3, u4, hqt⟩ := hkc.at_ (List.getElem?_eq_getElem hjl)
        obtain ⟨qk, qi, qn, qAL, qnl, qcl, qAK, qnk, qck, hqe, _⟩ := hqt.open_
        simp only [Value.agg.injEq, Array.mk.injEq, List.cons.injEq, and_true] at hqe
        obtain ⟨rfl, rfl, rfl, rfl, rfl⟩ := hqe
        have hst := szL_mem (List.getElem_mem hjl)
        have hsz' := HSZ.out
        rw [szT] at hsz'
        have hb1 : bbN k j ≤ 1 := by unfold bbN; split <;> omega
        have HD := Lib.hid (drop_cp (rfR by_ fr) (k := k) (d := d) hjl)
        have HBD := Lib.hid (show binI k (j : Int) = ((bbN k j : Nat) : Int) from binI_bind k j)
        have hqq := HQ.out.kid hjl
        have hIH := fun (e1 : Int) (W : World) (hW : TmP W (fun q => q < B ∧ q ≠ pw) ks[j] (.agg #[.int .i64 qk, .int .i64 qi, .string qn, .slice qAL qnl qcl, .slice qAK qnk qck])) (hBW : B ≤ W.heap.size) (hk : WkS pw e1 n W) => IH.out ks[j] _ (d + bbN k j) B pw e1 n W (by omega) (by omega) hqq hW hBW hk
        have HIH := Lib.hid hIH
        have HQT := Lib.hid hqt
        have hdb : d + bbN k j ≤ 1000000000 := by omega
        generalize ks[j] = q at *
        generalize hbb : bbN k j = bb at *
        clear hbb hst hsz' hqq hIH hqt
        have HBe := Lib.hid (fun W => rbelow_any k j W)
        have hkb : kb < w.heap.size := by omega
        have HU := Lib.hid (And.intro u0 (And.intro u1 (And.intro u2 (And.intro u3 u4))))
        clear u0 u1 u2 u3 u4 hkc
        have HNX := Lib.hid (show ∀ (e1 : Int) (ts : List Tm) (us : List Value) (sv : Value) (W : World), RS w pw B k i nm AL ls.length cl (some ⟨kb, ko, none⟩) ks.length ck e1 n ts us sv W → W.cell? ⟨w.heap.size, 0, none⟩ = some (.int .i64 k) ∧ W.cell? ⟨w.heap.size, 4, none⟩ = some (.slice (some ⟨kb, ko, none⟩) ks.length ck) ∧ W.cell? ⟨kb, ko + j * 5, none⟩ = some (.int .i64 qk) ∧ W.cell? ⟨kb, ko + j * 5 + 1, none⟩ = some (.int .i64 qi) ∧ W.cell? ⟨kb, ko + j * 5 + 2, none⟩ = some (.string qn) ∧ W.cell? ⟨kb, ko + j * 5 + 3, none⟩ = some (.slice qAL qnl qcl) ∧ W.cell? ⟨kb, ko + j * 5 + 4, none⟩ = some (.slice qAK qnk qck) from fun e1 ts us sv W h => ⟨h.bx.x0, h.bx.x4, (h.kp.cell (p := ⟨kb, ko + j * 5, none⟩) hkb hkS.2).trans HU.out.1, (h.kp.cell (p := ⟨kb, ko + j * 5 + 1, none⟩) hkb hkS.2).trans HU.out.2.1, (h.kp.cell (p := ⟨kb, ko + j * 5 + 2, none⟩) hkb hkS.2).trans HU.out.2.2.1, (h.kp.cell (p := ⟨kb, ko + j * 5 + 3, none⟩) hkb hkS.2).trans HU.out.2.2.2.1, (h.kp.cell (p := ⟨kb, ko + j * 5 + 4, none⟩) hkb hkS.2).trans HU.out.2.2.2.2⟩)
        go_upto_region 12 with fail
        have hdr : RS w pw B k i nm AL ls.length cl (some ⟨kb, ko, none⟩) ks.length ck (er e0 ea) n ts us sv wr.drew := HRS.out.next hpw ((Kp.refl _ _).newP (Below.refl _ _).drew) (HRS.out.wk.next (Below.refl _ _).drew)
        have HR := Lib.hid hdr
        clear hdr
        have HI := Lib.hid (show ∀ (e1 : Int) (W : World), RS w pw B k i nm AL ls.length cl (some ⟨kb, ko, none⟩) ks.length ck e1 n ts us sv W → Calls Tryd.prog 31 #[.pointer (some ⟨pw, 0, none⟩), .agg #[.int .i64 qk, .int .i64 qi, .string qn, .slice qAL qnl qcl, .slice qAK qnk qck], .int .i64 by_, .int .i64 fr, .int .i64 ((d : Int) + (bb : Int))] W (RsP pw B e1 n (cpT (rfR by_ fr) q (d + bb)) W) from fun e1 W h => by
          have h' := HIH.out e1 W (tmP_kp HQT.out h.kp (fun q h => h.2)) (by have := h.kp.size; omega) h.wk
          rw [Int.natCast_add] at h'
          exact h')
        have HA8 := Lib.hid (show ∀ (e1 : Int) (W : World) (ew : Ending) (w8 : World), RS w pw B k i nm AL ls.length cl (some ⟨kb, ko, none⟩) ks.length ck e1 n ts us sv W → RsP pw B e1 n (cpT (rfR by_ fr) q (d + bb)) W ew w8 → ∃ rk ri rn rAL rnl rcl rAK rnk rck, ew = .returned (.agg #[.int .i64 rk, .int .i64 ri, .string rn, .slice rAL rnl rcl, .slice rAK rnk rck]) ∧ RS w pw B k i nm AL ls.length cl (some ⟨kb, ko, none⟩) ks.length ck (er e1 (cpT (rfR by_ fr) q (d + bb)).e) n ts us sv w8 ∧ TmP w8 (fun q => (q < B ∨ w.heap.size + 2 ≤ q) ∧ q ≠ pw ∧ sv.ownBlock ≠ some q) (cpT (rfR by_ fr) q (d + bb)).t (.agg #[.int .i64 rk, .int .i64 ri, .string rn, .slice rAL rnl rcl, .slice rAK rnk rck]) from fun e1 W ew w8 h h8 => by
          obtain ⟨hk8, hw8, rk, ri, rn, rAL, rnl, rcl, rAK, rnk, rck, rfl, ht8⟩ := h8
          refine ⟨rk, ri, rn, rAL, rnl, rcl, rAK, rnk, rck, rfl, h.next hpw hk8 hw8, TmP.mono (fun q hq _ => ⟨hq.1.imp id (fun h' => by have := h.br.lt; omega), hq.2, fun e => ?_⟩) _ _ ht8⟩
          rcases h.own.2 with ⟨hv, _⟩ | ⟨g, cap, cur, hv, hg, hh, _⟩
          · rw [hv] at e; simp [Value.ownBlock] at e
          · rw [hv] at e
            simp only [Value.ownBlock, Option.some.injEq] at e
            have := (Array.getElem?_eq_some_iff.1 hh).1
            rcases hq.1 with h' | h'
            · omega
            · omega)
        have HNX2 := Lib.hid (fun (e1 : Int) (W : World) (o : Obj) (h : RS w pw B k i nm AL ls.length cl (some ⟨kb, ko, none⟩) ks.length ck e1 n ts us sv W) => HNX.out e1 ts us sv (W.alloc o) (h.next hpw ((Kp.refl _ _).newP ((Below.refl _ _).alloc (Nat.le_refl _) o)) (h.wk.next ((Below.refl _ _).alloc (Nat.le_refl _) o))))
        have htl : ts.length < ks.length := by have := hlen.out; omega
        have hpB : B ≤ w.heap.size := hB
        clear y0 y1 y2 y3 y4 f0 f1 f2 f3 f4 HRS HIH
        refine wp_region_held_drew (S := fun w' => w'.cell? ⟨w.heap.size, 0, none⟩ = some (.int .i64 k) ∧ w'.cell? ⟨w.heap.size, 4, none⟩ = some (.slice (some ⟨kb, ko, none⟩) ks.length ck) ∧ w'.cell? ⟨kb, ko + j * 5, none⟩ = some (.int .i64 qk) ∧ w'.cell? ⟨kb, ko + j * 5 + 1, none⟩ = some (.int .i64 qi) ∧ w'.cell? ⟨kb, ko + j * 5 + 2, none⟩ = some (.string qn) ∧ w'.cell? ⟨kb, ko + j * 5 + 3, none⟩ = some (.slice qAL qnl qcl) ∧ w'.cell? ⟨kb, ko + j * 5 + 4, none⟩ = some (.slice qAK qnk qck)) (by kernel_rfl) (HNX.out _ _ _ _ _ HR.out) ?_
        intro hS
        refine wpAnyH_take (i := 0) (oi := { dst := some 47, op := Op.move (Operand.tmp 11), type := 23, pos := "ref.go:48", after := #[], guard := none }) (v := sv) rfl (by kernel_rfl) (by kernel_rfl) (by kernel_rfl) (fun _ _ _ h => h) (Or.inl ⟨by rfl, ?_⟩) hS ?_
        · intro w9 hSw
          obtain ⟨s0, s1, s2, s3, s4, s5, s6⟩ := hSw
          go_simp
        simp only [Act.put, List.setIfInBounds_toArray, List.set_cons_zero, List.set_cons_succ]
        refine wpAnyH_take (i := 1) (oi := { dst := some 48, op := Op.move (Operand.tmp 0), type := 61, pos := "ref.go:48", after := #[], guard := none }) (v := .pointer (some ⟨pw, 0, none⟩)) rfl (by kernel_rfl) (by kernel_rfl) (by kernel_rfl) (fun _ _ _ h => h) (Or.inl ⟨by rfl, ?_⟩) hS ?_
        · intro w9 hSw
          obtain ⟨s0, s1, s2, s3, s4, s5, s6⟩ := hSw
          go_simp
        simp only [Act.put, List.setIfInBounds_toArray, List.set_cons_zero, List.set_cons_succ]
        refine wpAnyH_take (i := 2) (oi := { dst := some 49, op := Op.fieldAddr 25 (Operand.tmp 6) 4, type := 0, pos := "ref.go:48", after := #[], guard := none }) (v := .pointer (some ⟨w.heap.size, 4, none⟩)) rfl (by kernel_rfl) (by kernel_rfl) (by kernel_rfl) (fun _ _ _ h => h) (Or.inl ⟨by rfl, ?_⟩) hS ?_
        · intro w9 hSw
          obtain ⟨s0, s1, s2, s3, s4, s5, s6⟩ := hSw
          go_simp
        simp only [Act.put, List.setIfInBounds_toArray, List.set_cons_zero, List.set_cons_succ]
        refine wpAnyH_take (i := 3) (oi := { dst := some 50, op := Op.load 23 (Operand.tmp 49), type := 23, pos := "ref.go:48", after := #[{ on := 2, ground := Ground.data }], guard := none }) (v := .slice (some ⟨kb, ko, none⟩) ks.length ck) rfl (by kernel_rfl) (by kernel_rfl) (by kernel_rfl) (fun _ _ _ h => h) (Or.inl ⟨by rfl, ?_⟩) hS ?_
        · intro w9 hSw
          obtain ⟨s0, s1, s2, s3, s4, s5, s6⟩ := hSw
          go_simp
        simp only [Act.put, List.setIfInBounds_toArray, List.set_cons_zero, List.set_cons_succ]
        refine wpAnyH_take (i := 4) (oi := { dst := some 51, op := Op.move (Operand.tmp 12), type := 3, pos := "ref.go:48", after := #[], guard := none }) (v := .int .i64 (j : Int)) rfl (by kernel_rfl) (by kernel_rfl) (by kernel_rfl) (fun _ _ _ h => h) (Or.inl ⟨by rfl, ?_⟩) hS ?_
        · intro w9 hSw
          obtain ⟨s0, s1, s2, s3, s4, s5, s6⟩ := hSw
          go_simp
        simp only [Act.put, List.setIfInBounds_toArray, List.set_cons_zero, List.set_cons_succ]
        refine wpAnyH_take (i := 5) (oi := { dst := some 52, op := Op.indexAddr 23 (Operand.tmp 50) (Operand.tmp 51), type := 0, pos := "ref.go:48", after := #[{ on := 3, ground := Ground.data }, { on := 4, ground := Ground.data }], guard := none }) (v := .pointer (some ⟨kb, ko + j * 5, none⟩)) rfl (by kernel_rfl) (by kernel_rfl) (by kernel_rfl) (fun _ _ _ h => h) (Or.inl ⟨by rfl, ?_⟩) hS ?_
        · intro w9 hSw
          obtain ⟨s0, s1, s2, s3, s4, s5, s6⟩ := hSw
          go_simp
        simp only [Act.put, List.setIfInBounds_toArray, List.set_cons_zero, List.set_cons_succ]
        refine wpAnyH_take (i := 6) (oi := { dst := some 53, op := Op.load 25 (Operand.tmp 52), type := 25, pos := "ref.go:48", after := #[{ on := 5, ground := Ground.data }], guard := none }) (v := .agg #[.int .i64 qk, .int .i64 qi, .string qn, .slice qAL qnl qcl, .slice qAK qnk qck]) rfl (by kernel_rfl) (by kernel_rfl) (by kernel_rfl) (fun _ _ _ h => h) (Or.inl ⟨by rfl, ?_⟩) hS ?_
        · intro w9 hSw
          obtain ⟨s0, s1, s2, s3, s4, s5, s6⟩ := hSw
          go_simp
        simp only [Act.put, List.setIfInBounds_toArray, List.set_cons_zero, List.set_cons_succ]
        refine wpAnyH_take (i := 7) (oi := { dst := some 54, op := Op.move (Operand.tmp 2), type := 3, pos := "ref.go:48", after := #[], guard := none }) (v := .int .i64 by_) rfl (by kernel_rfl) (by kernel_rfl) (by kernel_rfl) (fun _ _ _ h => h) (Or.inl ⟨by rfl, ?_⟩) hS ?_
        · intro w9 hSw
          obtain ⟨s0, s1, s2, s3, s4, s5, s6⟩ := hSw
          go_simp
        simp only [Act.put, List.setIfInBounds_toArray, List.set_cons_zero, List.set_cons_succ]
        refine wpAnyH_take (i := 8) (oi := { dst := some 55, op := Op.move (Operand.tmp 3), type := 3, pos := "ref.go:48", after := #[], guard := none }) (v := .int .i64 fr) rfl (by kernel_rfl) (by kernel_rfl) (by kernel_rfl) (fun _ _ _ h => h) (Or.inl ⟨by rfl, ?_⟩) hS ?_
        · intro w9 hSw
          obtain ⟨s0, s1, s2, s3, s4, s5, s6⟩ := hSw
          go_simp
        simp only [Act.put, List.setIfInBounds_toArray, List.set_cons_zero, List.set_cons_succ]
        refine wpAnyH_take (i := 9) (oi := { dst := some 56, op := Op.move (Operand.tmp 4), type := 3, pos := "ref.go:48", after := #[], guard := none }) (v := .int .i64 (d : Int)) rfl (by kernel_rfl) (by kernel_rfl) (by kernel_rfl) (fun _ _ _ h => h) (Or.inl ⟨by rfl, ?_⟩) hS ?_
        · intro w9 hSw
          obtain ⟨s0, s1, s2, s3, s4, s5, s6⟩ := hSw
          go_simp
        simp only [Act.put, List.setIfInBounds_toArray, List.set_cons_zero, List.set_cons_succ]
        refine wpAnyH_take (i := 10) (oi := { dst := some 57, op := Op.fieldAddr 25 (Operand.tmp 6) 0, type := 0, pos := "ref.go:48", after := #[], guard := none }) (v := .pointer (some ⟨w.heap.size, 0, none⟩)) rfl (by kernel_rfl) (by kernel_rfl) (by kernel_rfl) (fun _ _ _ h => h) (Or.inl ⟨by rfl, ?_⟩) hS ?_
        · intro w9 hSw
          obtain ⟨s0, s1, s2, s3, s4, s5, s6⟩ := hSw
          go_simp
        simp only [Act.put, List.setIfInBounds_toArray, List.set_cons_zero, List.set_cons_succ]
        refine wpAnyH_take (i := 11) (oi := { dst := some 58, op := Op.load 3 (Operand.tmp 57), type := 3, pos := "ref.go:48", after := #[{ on := 10, ground := Ground.data }], guard := none }) (v := .int .i64 k) rfl (by kernel_rfl) (by kernel_rfl) (by kernel_rfl) (fun _ _ _ h => h) (Or.inl ⟨by rfl, ?_⟩) hS ?_
        · intro w9 hSw
          obtain ⟨s0, s1, s2, s3, s4, s5, s6⟩ := hSw
          go_simp
        simp only [Act.put, List.setIfInBounds_toArray, List.set_cons_zero, List.set_cons_succ]
        refine wpAnyH_take (i := 12) (oi := { dst := some 59, op := Op.move (Operand.tmp 12), type := 3, pos := "ref.go:48", after := #[], guard := none }) (v := .int .i64 (j : Int)) rfl (by kernel_rfl) (by kernel_rfl) (by kernel_rfl) (fun _ _ _ h => h) (Or.inl ⟨by rfl, ?_⟩) hS ?_
        · intro w9 hSw
          obtain ⟨s0, s1, s2, s3, s4, s5, s6⟩ := hSw
          go_simp
        simp only [Act.put, List.setIfInBounds_toArray, List.set_cons_zero, List.set_cons_succ]
        refine wpAnyH_ready (rs := [13]) (by kernel_rfl) (List.cons_ne_nil _ _) ?_
        refine AllReadyH.cons (o := { dst := some 60, op := Op.call { callee := Callee.value (Operand.func 59), args := #[Operand.tmp 58, Operand.tmp 59], argTypes := #[3, 3] }, type := 3, pos := "ref.go:48", after := #[{ on := 11, ground := Ground.data }, { on := 12, ground := Ground.data }], guard := none }) rfl (fun K hK => ?_) AllReadyH.nil
        go_simp
        go_at_call 59
        refine (HBe.out _).mono ?_
        rw [HBD.out]
        rintro e w7 ⟨rfl, hw7⟩
        have HR := Lib.hid (show RS w pw B k i nm AL ls.length cl (some ⟨kb, ko, none⟩) ks.length ck (er e0 ea) n ts us sv w7 from by rw [hw7]; exact HR.out)
        clear hw7
        try go_simp
        refine hK _ _ (HNX.out _ _ _ _ _ HR.out) ?_
        clear hS
        intro hS
        clear hK K
        refine wpAnyH_take (i := 14) (oi := { dst := some 61, op := Op.binOp BinOp.add 3 (Operand.tmp 56) (Operand.tmp 60) 3, type := 3, pos := "ref.go:48", after := #[{ on := 9, ground := Ground.data }, { on := 13, ground := Ground.data }], guard := none }) (v := .int .i64 ((d : Int) + (bb : Int))) rfl (by kernel_rfl) (by kernel_rfl) (by kernel_rfl) (fun _ _ _ h => h) (Or.inl ⟨by rfl, ?_⟩) hS ?_
        · intro w9 hSw
          obtain ⟨s0, s1, s2, s3, s4, s5, s6⟩ := hSw
          go_simp
          exact IntKind_wrap _ (by omega) (by omega)
        simp only [Act.put, List.setIfInBounds_toArray, List.set_cons_zero, List.set_cons_succ]
        refine wpAnyH_ready (rs := [15]) (by kernel_rfl) (List.cons_ne_nil _ _) ?_
        refine AllReadyH.cons (o := { dst := some 62, op := Op.call { callee := Callee.value (Operand.func 31), args := #[Operand.tmp 48, Operand.tmp 53, Operand.tmp 54, Operand.tmp 55, Operand.tmp 61], argTypes := #[61, 25, 3, 3, 3] }, type := 25, pos := "ref.go:48", after := #[{ on := 1, ground := Ground.data }, { on := 6, ground := Ground.data }, { on := 7, ground := Ground.data }, { on := 8, ground := Ground.data }, { on := 14, ground := Ground.data }, { on := 13, ground := Ground.chain }], guard := none }) rfl (fun K hK => ?_) AllReadyH.nil
        go_simp
        go_at_call 31
        refine (HI.out _ _ HR.out).mono ?_
        intro e w8 h8
        obtain ⟨rk, ri, rn, rAL, rnl, rcl, rAK, rnk, rck, rfl, hR8, ht8⟩ := HA8.out _ _ _ _ HR.out h8
        have HR := Lib.hid hR8
        have HT8 := Lib.hid ht8
        clear h8 hR8 ht8
        try go_simp
        refine hK _ _ (HNX.out _ _ _ _ _ HR.out) ?_
        clear hS
        intro hS
        clear hK K
        refine wpAnyH_ready (rs := [16]) (by kernel_rfl) (List.cons_ne_nil _ _) ?_
        refine AllReadyH.cons (o := { dst := some 63, op := Op.buildSlice 23 1 #[(0, Operand.tmp 62)], type := 23, pos := "ref.go:48", after := #[{ on := 15, ground := Ground.data }], guard := none }) rfl (fun K hK => ?_) AllReadyH.nil
        go_simp
        refine hK _ _ (HNX2.out _ _ _ HR.out) ?_
        clear hS
        intro hS
        clear hK K
        refine wpAnyH_ready (rs := [17]) (by kernel_rfl) (List.cons_ne_nil _ _) ?_
        refine AllReadyH.cons (o := { dst := some 64, op := Op.call { callee := Callee.builtin Builtin.append, args := #[Operand.tmp 47, Operand.tmp 63], argTypes := #[23, 23] }, type := 23, pos := "ref.go:48", after := #[{ on := 0, ground := Ground.data }, { on := 16, ground := Ground.data }, { on := 15, ground := Ground.chain }], guard := none }) rfl (fun K hK => ?_) AllReadyH.nil
        refine step_append_lies _ rfl (.tmp 47) (.tmp 63) 23 rfl (w.heap.size + 2) 25 i0 (.agg #[.int .i64 0, .int .i64 0, .string ⟨#[]⟩, .slice none 0 0, .slice none 0 0]) 5 80 Tryd.underlying23 hi hz0 hz1 hz2 rfl (by decide) sv ts.length us (by simp [Act.eval]) (World.ownsRow.alloc HR.out.own _) ⟨w8.heap.size, 0, none⟩ 1 1 [.int .i64 rk, .int .i64 ri, .string rn, .slice rAL rnl rcl, .slice rAK rnk rck] (by simp [Act.eval]) rfl ?qn ?q1 (by decide) ?qm ?qb ?qs _ rfl ?_
        case qn => intro m u hu; rw [Addr.add_lit, Nat.zero_add, cell_of_row _ _ m _ _ _ (World.alloc_heap_new w8 (.cells #[.int .i64 rk, .int .i64 ri, .string rn, .slice rAL rnl rcl, .slice rAK rnk rck] 25))]; simpa using hu
        case q1 => intro u hu; simp at hu; rcases hu with rfl | rfl | rfl | rfl | rfl <;> rfl
        case qm => unfold maxLen; omega
        case qb => omega
        case qs => have := HR.out.kp.size; have := HR.out.br.lt; simp; omega
        intro g6 cap6 w9 hown hgrow hwhere hlt2
        have HR := Lib.hid (HR.out.grow (by omega) (by omega) HT8.out ((Below.refl _ _).alloc (Nat.le_refl _) _) hown hgrow hwhere).1
        clear hown hgrow hwhere hlt2 HT8
        refine hK _ _ (HNX.out _ _ _ _ _ HR.out) ?_
        clear hS
        intro hS
        clear hK K
        refine wpAnyH_take (i := 18) (oi := { dst := some 11, op := Op.assign (Operand.tmp 64), type := 23, pos := "ref.go:48", after := #[{ on := 17, ground := Ground.data }, { on := 17, ground := Ground.chain }, { on := 0, ground := Ground.phase }, { on := 1, ground := Ground.phase }, { on := 2, ground := Ground.phase }, { on := 3, ground := Ground.phase }, { on := 4, ground := Ground.phase }, { on := 5, ground := Ground.phase }, { on := 6, ground := Ground.phase }, { on := 7, ground := Ground.phase }, { on := 8, ground := Ground.phase }, { on := 9, ground := Ground.phase }, { on := 10, ground := Ground.phase }, { on := 11, ground := Ground.phase }, { on := 12, ground := Ground.phase }, { on := 13, ground := Ground.phase }, { on := 14, ground := Ground.phase }, { on := 15, ground := Ground.phase }, { on := 16, ground := Ground.phase }, { on := 17, ground := Ground.phase }], guard := none }) (v := .slice (some ⟨g6, 0, none⟩) (ts.length + 1) cap6) rfl (by kernel_rfl) (by kernel_rfl) (by kernel_rfl) (fun _ _ _ h => h) (Or.inl ⟨by rfl, ?_⟩) hS ?_
        · intro w9 hSw
          obtain ⟨s0, s1, s2, s3, s4, s5, s6⟩ := hSw
          go_simp
        simp only [Act.put, List.setIfInBounds_toArray, List.set_cons_zero, List.set_cons_succ]
        refine wpAnyH_done (by kernel_rfl) ?_ _
        have HLN := Lib.hid (show (ts ++ [(cpT (rfR by_ fr) q (d + bb)).t]).length = j + 1 by rw [List.length_append, hlen.out]; rfl)
        have HJN : Hid (er (er ea (cpT (rfR by_ fr) q (d + bb)).e) (cpL (rfR by_ fr) (ks.drop (j + 1)) k d (j + 1)).e = (cpL (rfR by_ fr) ks k d 0).e ∧ (ts ++ [(cpT (rfR by_ fr) q (d + bb)).t]) ++ (cpL (rfR by_ fr) (ks.drop (j + 1)) k d (j + 1)).ts = (cpL (rfR by_ fr) ks k d 0).ts) := Lib.hid ⟨by rw [er_assoc, ← HD.out.1]; exact HJ.out.1, by rw [List.append_assoc, List.singleton_append, ← HD.out.2]; exact HJ.out.2⟩
        have hrn := HR.out
        rw [er_assoc] at hrn
        have HRN := Lib.hid hrn
        clear hS hrn
        go_wp2_with fail
        go_roundw
        case rel => exact ⟨j + 1, _, _, _, _, rfl, hjl, by go_num, HLN, HJN, HRN⟩
        case measure => simp [intOf]; omega
      · have hji : decide ((j : Int) < (ks.length : Int)) = false := by rw [decide_eq_false_iff_not]; omega
        have hjj := HJ.out
        rw [List.drop_of_length_le (by omega), cpL] at hjj
        have HE1 := Lib.hid (show (cpL (rfR by_ fr) ks k d 0).e = ea by rw [← hjj.1]; exact er_zero_right ea)
        have HE2 := Lib.hid (show (cpL (rfR by_ fr) ks k d 0).ts = ts by rw [← hjj.2]; exact List.append_nil ts)
        have htl : ts.length ≤ ks.length := by have := hlen.out; omega
        obtain ⟨svA, svc, rfl⟩ : ∃ A c, sv = .slice A ts.length c := by
          rcases HRS.out.own.2 with ⟨rfl, h0⟩ | ⟨g, cap, cur, rfl, _⟩
          · exact ⟨none, 0, by rw [h0]⟩
          · exact ⟨_, _, rfl⟩
        have hK := HRS.out.kids hpw hB
        have hN := hK.node hpw (by omega) HLS.out
        have hd := hK.done hpw hB hN
        unfold set5 at hd
        simp only [Nat.zero_add] at hd
        have HD := Lib.hid hd
        have HK := Lib.hid hK
        clear hd hN hK hjj HRS hlen
        go_upto_region 14 with fail
        generalize wr.setCell ⟨w.heap.size, 4, none⟩ (.slice svA ts.length svc) = w1 at HK HD ⊢
        clear y0 y1 y2 y3 y4 f0 f1 f2 f3 f4
        obtain ⟨y0, y1, y2, y3, y4, _, _, _, _, _⟩ := HK.out.bx
        obtain ⟨z0, z1, z2, z3, z4, g0, g1, g2, g3, g4⟩ := HK.out.br
        have hlt1 := HK.out.br.lt
        go_wp2_with fail
        generalize (((((w1.setCell ⟨w.heap.size + 1, 0, none⟩ (.int .i64 k)).setCell ⟨w.heap.size + 1, 1, none⟩ (.int .i64 i)).setCell ⟨w.heap.size + 1, 2, none⟩ (.string nm)).setCell ⟨w.heap.size + 1, 3, none⟩ (.slice AL ls.length cl)).setCell ⟨w.heap.size + 1, 4, none⟩ (.slice svA ts.length svc)) = w3 at HD ⊢
        clear z0 z1 z2 z3 z4 g0 g1 g2 g3 g4
        obtain ⟨z0, z1, z2, z3, z4, g0, g1, g2, g3, g4⟩ := HD.out.1
        exact bodyPost_ret (v := .agg #[.int .i64 k, .int .i64 i, .string nm, .slice AL ls.length cl, .slice svA ts.length svc]) (by simp [results, Tryd.results31, go_sem, z0, z1, z2, z3, z4]) rfl (by rw [HX.out]; refine ⟨HD.out.2.1, ?_, _, _, _, _, _, _, _, _, _, rfl, ?_⟩; (show WkS pw (er e0 (cpL (rfR by_ fr) ks k d 0).e) n w3; rw [HE1.out]; exact HD.out.2.2.1); (show TmP w3 _ (.mk k i nm ls (cpL (rfR by_ fr) ks k d 0).ts) _; rw [HE2.out]; exact HD.out.2.2.2))
end Go.Proofs.YtobaeeobfcffoaaDoor
