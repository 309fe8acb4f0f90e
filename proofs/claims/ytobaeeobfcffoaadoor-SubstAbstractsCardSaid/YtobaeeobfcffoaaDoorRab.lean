/- The reference's abstract. -/
import Derived.Test.YtobaeeobfcffoaaDoorRap
import Derived.Test.YtobaeeobfcffoaaDoorRsu
namespace Go.Proofs.YtobaeeobfcffoaaDoor
open Go.RowKit

/-- What the reference's abstract leaves. -/
def RaP (pw B : Nat) (e0 n : Int) (x : Ou) (w : World) (e : Ending) (w' : World) : Prop :=
  Kp (MP pw) w w' ∧ WkS pw (er e0 x.e) (n + x.f) w' ∧ ∃ rk ri rn rAL rnl rcl rAK rnk rck, e = .returned (.agg #[.int .i64 rk, .int .i64 ri, .string rn, .slice rAL rnl rcl, .slice rAK rnk rck]) ∧ TmP w' (fun q => (q < B ∨ w.heap.size ≤ q) ∧ q ≠ pw) x.t (.agg #[.int .i64 rk, .int .i64 ri, .string rn, .slice rAL rnl rcl, .slice rAK rnk rck])
/-- A result, put into its box. -/
theorem done_at {w W : World} {b pw B : Nat} {e n : Int} (hb : w.heap.size ≤ b) (hne : b ≠ pw) (hk : Kp (MP pw) w W) (hw : WkS pw e n W) (hz : B5 b (.int .i64 0) (.int .i64 0) (.string ⟨#[]⟩) (.slice none 0 0) (.slice none 0 0) W) {t : Tm} {rk ri : Int} {rn : ByteArray} {rAL : Option Addr} {rnl rcl : Nat} {rAK : Option Addr} {rnk rck : Nat} (ht : TmP W (fun q => ((q < B ∨ w.heap.size ≤ q) ∧ q ≠ pw) ∧ q ≠ b) t (.agg #[.int .i64 rk, .int .i64 ri, .string rn, .slice rAL rnl rcl, .slice rAK rnk rck])) :
    B5 b (.int .i64 rk) (.int .i64 ri) (.string rn) (.slice rAL rnl rcl) (.slice rAK rnk rck) (set5 W b 0 (.int .i64 rk) (.int .i64 ri) (.string rn) (.slice rAL rnl rcl) (.slice rAK rnk rck)) ∧ Kp (MP pw) w (set5 W b 0 (.int .i64 rk) (.int .i64 ri) (.string rn) (.slice rAL rnl rcl) (.slice rAK rnk rck)) ∧ WkS pw e n (set5 W b 0 (.int .i64 rk) (.int .i64 ri) (.string rn) (.slice rAL rnl rcl) (.slice rAK rnk rck)) ∧ TmP (set5 W b 0 (.int .i64 rk) (.int .i64 ri) (.string rn) (.slice rAL rnl rcl) (.slice rAK rnk rck)) (fun q => (q < B ∨ w.heap.size ≤ q) ∧ q ≠ pw) t (.agg #[.int .i64 rk, .int .i64 ri, .string rn, .slice rAL rnl rcl, .slice rAK rnk rck]) :=
  ⟨hz.put _ _ _ _ _, ((((hk.ownP hb _ _).ownP hb _ _).ownP hb _ _).ownP hb _ _).ownP hb _ _, hw.kp (set5_heap (fun e => hne e.symm)), TmP.mono (fun _ h _ => h.1) _ _ (TmP.keep (fun _ hp => set5_far (o := 0) hp.2) _ _ ht)⟩
/-- Another walk's block is written, that is not older than the call. -/
theorem Kp.over {pw py : Nat} {w W W' : World} (h : Kp (MP pw) w W) (hk : Kp (MP py) W W') (hp : w.heap.size ≤ py) : Kp (MP pw) w W' :=
  ⟨hk.os.trans h.os, hk.tape.trans h.tape, hk.output.trans h.output, Nat.le_trans h.size hk.size, fun q hq hm => (hk.block q (Nat.lt_of_lt_of_le hq h.size) (by show q ≠ py; omega)).trans (h.block q hq hm), fun _ hq => .inl hq⟩
theorem RS.nextY {w1 : World} {pw py B : Nat} {k i : Int} {nm : ByteArray} {AL : Option Addr} {nl cl : Nat} {AK : Option Addr} {nk ck : Nat} {e n : Int} {W W' : World} (h : RS w1 pw B k i nm AL nl cl AK nk ck e n [] [] (.slice none 0 0) W) (hp : pw < w1.heap.size) (hy : w1.heap.size + 2 ≤ py) (hk : Kp (MP py) W W') : RS w1 pw B k i nm AL nl cl AK nk ck e n [] [] (.slice none 0 0) W' :=
  ⟨h.bx.kp hk (by omega), h.br.kp hk (by omega), h.kp.over hk (by omega), h.wk.kp (hk.block pw h.wk.lt (by show pw ≠ py; omega)), ⟨rfl, .inl ⟨rfl, rfl⟩⟩, rfl⟩
/-- The kids, as a node with other cells. -/
theorem RS.node' {w0 : World} {pw B : Nat} {k i : Int} {nm : ByteArray} {AL : Option Addr} {nl cl : Nat} {AK : Option Addr} {nk ck : Nat} {k' i' : Int} {nm' : ByteArray} {AL' : Option Addr} {cl' : Nat} {e n : Int} {ts : List Tm} {us : List Value} {A : Option Addr} {c : Nat} {w : World} {ls : List (Int × List (Int × Int))} (h : RS w0 pw B k i nm AL nl cl AK nk ck e n ts us (.slice A ts.length c) w) (hp : pw < w0.heap.size) (hz : ts.length * 80 ≤ 140737488355328) (hls : LvsP w0 (fun q => q < B ∧ q ≠ pw) AL' ls) : TmP w (fun q => (q < B ∨ w0.heap.size + 2 ≤ q) ∧ q ≠ pw) (.mk k' i' nm' ls ts) (.agg #[.int .i64 k', .int .i64 i', .string nm', .slice AL' ls.length cl', .slice A ts.length c]) := by
  rw [TmP]
  refine ⟨AL', cl', A, c, rfl, ?_, hz, fun hn => ?_⟩
  · exact ((hls.mono (S' := fun q => (q < B ∧ q ≠ pw) ∧ q < w0.heap.size) (fun q h hl => ⟨h, hl⟩)).keep (fun p hp' => h.kp.cell hp'.2 hp'.1.2)).mono (fun q hq _ => ⟨.inl hq.1.1, hq.1.2⟩)
  · have ho := h.own
    rcases ho.2 with ⟨_, h0⟩ | ⟨g, cap, cur, hv, hg, _⟩
    · omega
    · simp only [Value.slice.injEq] at hv
      obtain ⟨rfl, _, rfl⟩ := hv
      refine ⟨g, 0, rfl, ⟨.inr hg, by omega⟩, KsP.mono (fun q hq _ => ⟨hq.1, hq.2.1⟩) _ _ _ (h.rd.ksP (fun j u hu => ?_))⟩
      have := ho.cells (g := g) rfl j u hu
      rw [Addr.add_lit, Nat.zero_add] at this
      rw [Nat.zero_add]
      exact this
theorem B5.blk {b : Nat} {c0 c1 c2 c3 c4 : Value} {w w' : World} (h : B5 b c0 c1 c2 c3 c4 w) (hk : w'.heap[b]? = w.heap[b]?) : B5 b c0 c1 c2 c3 c4 w' :=
  ⟨(World.cell?_of_block (w := w) (a := ⟨b, 0, none⟩) hk).trans h.x0, (World.cell?_of_block (w := w) (a := ⟨b, 1, none⟩) hk).trans h.x1, (World.cell?_of_block (w := w) (a := ⟨b, 2, none⟩) hk).trans h.x2, (World.cell?_of_block (w := w) (a := ⟨b, 3, none⟩) hk).trans h.x3, (World.cell?_of_block (w := w) (a := ⟨b, 4, none⟩) hk).trans h.x4, (World.frozen?_of_block (w := w) (a := ⟨b, 0, none⟩) hk).trans h.f0, (World.frozen?_of_block (w := w) (a := ⟨b, 1, none⟩) hk).trans h.f1, (World.frozen?_of_block (w := w) (a := ⟨b, 2, none⟩) hk).trans h.f2, (World.frozen?_of_block (w := w) (a := ⟨b, 3, none⟩) hk).trans h.f3, (World.frozen?_of_block (w := w) (a := ⟨b, 4, none⟩) hk).trans h.f4⟩
theorem B5.put4 {b : Nat} {c0 c1 c2 c3 c4 : Value} {w : World} (h : B5 b c0 c1 c2 c3 c4 w) (v : Value) : B5 b c0 c1 c2 c3 v (w.setCell ⟨b, 4, none⟩ v) := by
  have hf : ∀ j, w.frozen? ⟨b, j, none⟩ = false → (w.setCell ⟨b, 4, none⟩ v).frozen? ⟨b, j, none⟩ = false := fun j h => by go_simp
  exact ⟨set_other h.x0 (by decide), set_other h.x1 (by decide), set_other h.x2 (by decide), set_other h.x3 (by decide), set_same h.x4, hf 0 h.f0, hf 1 h.f1, hf 2 h.f2, hf 3 h.f3, hf 4 h.f4⟩
theorem drop_cpf (R : Tm → Nat → Option Ou) {ks : List Tm} {k : Int} {d j : Nat} (hj : j < ks.length) : (cpL R (ks.drop j) k d j).f = (cpT R ks[j] (d + bbN k j)).f + (cpL R (ks.drop (j + 1)) k d (j + 1)).f := by
  rw [← List.getElem_cons_drop hj, cpL]
set_option maxRecDepth 100000 in
set_option maxHeartbeats 16000000 in
theorem rab_any (part : Tm) (hpz : szT part ≤ 1000000) (hpq : AllT Qv part 0) : ∀ (N : Nat) (t : Tm) (v vp : Value) (D B pw : Nat) (e0 n : Int) (w : World), szT t ≤ N → D + N ≤ 900000 → 0 ≤ n ∧ n + szT t ≤ 1000000000 → AllT Qv t D → TmP w (fun q => q < B ∧ q ≠ pw) t v → TmP w (fun q => q < B ∧ q ≠ pw) part vp → B ≤ w.heap.size → WkS pw e0 n w →
    Calls Tryd.prog 45 #[.pointer (some ⟨pw, 0, none⟩), v, vp, .int .i64 (D : Int)] w (RaP pw B e0 n (cpT (raR part) t D) w) := by
  intro N
  induction N with
  | zero => intro t v vp D B pw e0 n w h; have := szT_pos t; omega
  | succ N ih =>
  intro t v vp D B pw e0 n w hsz hdN hnn hq hv hvp hB hw
  have hv0 := hv
  obtain ⟨pk, pi, pn, pAL, pnl, pcl, pAK, pnk, pck, rfl, _⟩ := TmP.open_ hvp
  cases t with
  | mk k i nm ls ks =>
  rw [TmP] at hv
  obtain ⟨AL, cl, AK, ck, rfl, hls, hz, hks⟩ := hv
  have hpw := hw.lt
  obtain ⟨w1, hw1⟩ : ∃ z, z = w.alloc (.cells #[.int .i64 k, .int .i64 i, .string nm, .slice AL ls.length cl, .slice AK ks.length ck] 25) := ⟨_, rfl⟩
  have hb1 : Below w.heap.size w w1 := by rw [hw1]; exact alB _ _
  have hs1 : w1.heap.size = w.heap.size + 1 := by rw [hw1]; simp
  have hT1 : B5 w.heap.size (.int .i64 k) (.int .i64 i) (.string nm) (.slice AL ls.length cl) (.slice AK ks.length ck) w1 := by rw [hw1]; exact B5.new _ _ _ _ _ _
  have hR3 := RS.start (B := B) (w := w1) pk pi pn pAL pnl pcl pAK pnk pck (hw.next hb1)
  have hR4 := hR3.next (by omega) ((Kp.refl _ _).newP (alB _ (.cells #[.int .i64 0, .int .i64 0] 63))) (hR3.wk.next (alB _ _))
  have hY4 : WkS (w.heap.size + 1 + 1 + 1) 0 0 (((w1.alloc (.cells #[.int .i64 pk, .int .i64 pi, .string pn, .slice pAL pnl pcl, .slice pAK pnk pck] 25)).alloc (.cells #[.int .i64 0, .int .i64 0, .string ⟨#[]⟩, .slice none 0 0, .slice none 0 0] 25)).alloc (.cells #[.int .i64 0, .int .i64 0] 63)) := by
    have hn := World.alloc_heap_new ((w1.alloc (.cells #[.int .i64 pk, .int .i64 pi, .string pn, .slice pAL pnl pcl, .slice pAK pnk pck] 25)).alloc (.cells #[.int .i64 0, .int .i64 0, .string ⟨#[]⟩, .slice none 0 0, .slice none 0 0] 25)) (.cells #[.int .i64 0, .int .i64 0] 63)
    simp only [World.size_alloc, hs1] at hn
    have hf : ∀ j, (((w1.alloc (.cells #[.int .i64 pk, .int .i64 pi, .string pn, .slice pAL pnl pcl, .slice pAK pnk pck] 25)).alloc (.cells #[.int .i64 0, .int .i64 0, .string ⟨#[]⟩, .slice none 0 0, .slice none 0 0] 25)).alloc (.cells #[.int .i64 0, .int .i64 0] 63)).frozen? ⟨w.heap.size + 1 + 1 + 1, j, none⟩ = false := fun j => by simp [World.frozen?, hn]
    exact ⟨cell_of_row _ _ 0 _ _ _ hn, cell_of_row _ _ 1 _ _ _ hn, hf 0, hf 1⟩
  obtain ⟨W4, hW4⟩ : ∃ z, z = ((w1.alloc (.cells #[.int .i64 pk, .int .i64 pi, .string pn, .slice pAL pnl pcl, .slice pAK pnk pck] 25)).alloc (.cells #[.int .i64 0, .int .i64 0, .string ⟨#[]⟩, .slice none 0 0, .slice none 0 0] 25)).alloc (.cells #[.int .i64 0, .int .i64 0] 63) := ⟨_, rfl⟩
  rw [← hW4] at hR4 hY4
  rw [hw1] at hW4
  have HW4 := Lib.hid hW4
  have HR4 := Lib.hid hR4
  have HY4 := Lib.hid hY4
  have HS1 := Lib.hid hs1
  have HT1 := Lib.hid hT1
  have HK1 := Lib.hid (show ∀ (e1 n1 : Int) (ts : List Tm) (us : List Value) (sv : Value) (W : World), RS w1 pw B pk pi pn pAL pnl pcl pAK pnk pck e1 n1 ts us sv W → Kp (MP pw) w W from fun e1 n1 ts us sv W h => ((Kp.refl (MP pw) w).newP hb1).trans h.kp)
  have HTB := Lib.hid (show ∀ (e1 n1 : Int) (ts : List Tm) (us : List Value) (sv : Value) (W : World), RS w1 pw B pk pi pn pAL pnl pcl pAK pnk pck e1 n1 ts us sv W → B5 w.heap.size (.int .i64 k) (.int .i64 i) (.string nm) (.slice AL ls.length cl) (.slice AK ks.length ck) W ∧ B5 (w.heap.size + 1) (.int .i64 pk) (.int .i64 pi) (.string pn) (.slice pAL pnl pcl) (.slice pAK pnk pck) W ∧ B5 (w.heap.size + 1 + 1) (.int .i64 0) (.int .i64 0) (.string ⟨#[]⟩) (.slice none 0 0) (.slice none 0 0) W ∧ w.heap.size + 1 + 1 < W.heap.size from fun e1 n1 ts us sv W h => by
    have hb := h.bx
    have hr := h.br
    rw [hs1] at hb hr
    exact ⟨hT1.kp h.kp (by omega), hb, hr, hr.lt⟩)
  have HFX := Lib.hid (show ∀ (e1 n1 : Int) (ts : List Tm) (us : List Value) (sv : Value) (W : World), RS w1 pw B pk pi pn pAL pnl pcl pAK pnk pck e1 n1 ts us sv W → Kp (MP pw) w W ∧ WkS pw e1 n1 W ∧ B5 (w.heap.size + 1 + 1) (.int .i64 0) (.int .i64 0) (.string ⟨#[]⟩) (.slice none 0 0) (.slice none 0 0) W from fun e1 n1 ts us sv W h => ⟨HK1.out _ _ _ _ _ _ h, h.wk, (HTB.out _ _ _ _ _ _ h).2.2.1⟩)
  have HTM := Lib.hid (show ∀ (W : World), Kp (MP pw) w W → TmP W (fun q => q < B ∧ q ≠ pw) (.mk k i nm ls ks) (.agg #[.int .i64 k, .int .i64 i, .string nm, .slice AL ls.length cl, .slice AK ks.length ck]) ∧ TmP W (fun q => q < B ∧ q ≠ pw) part (.agg #[.int .i64 pk, .int .i64 pi, .string pn, .slice pAL pnl pcl, .slice pAK pnk pck]) from fun W h => ⟨tmP_kp hv0 h (fun q h => h.2), tmP_kp hvp h (fun q h => h.2)⟩)
  have hQ := hq.here
  have HQ := Lib.hid hq
  have HLS := Lib.hid ((hls.mono (S' := fun q => (q < B ∧ q ≠ pw) ∧ q < w.heap.size) (fun q h hl => ⟨h, hl⟩)).keep (w' := w1) (fun p hp' => hb1.cell hp'.2) |>.mono (S' := fun q => q < B ∧ q ≠ pw) (fun q h _ => h.1))
  have HKS := Lib.hid hks
  have IH := Lib.hid ih
  have HSZ := Lib.hid hsz
  clear ih hq hv0 hvp hls hks hw hsz hb1 hs1 hT1 hR3 hR4 hY4 hW4 hw1
  go_enter Tryd.func45, Tryd.ntmps45
  go_upto_region 2 with fail
  rw [← HW4.out]
  clear HW4
  have hsh := rshift_any (D : Int) 0 (by omega) (by omega) (szT part) part (.agg #[.int .i64 pk, .int .i64 pi, .string pn, .slice pAL pnl pcl, .slice pAK pnk pck]) 0 B (w.heap.size + 1 + 1 + 1) 0 0 W4 (Nat.le_refl _) (by omega) hpq (TmP.mono (fun q h _ => ⟨h.1, by omega⟩) _ _ (HTM.out W4 (HK1.out _ _ _ _ _ _ HR4.out)).2) (by have := (HK1.out _ _ _ _ _ _ HR4.out).size; omega) HY4.out
  have HSH := Lib.hid hsh
  clear hsh
  obtain ⟨y0, y1, y2, y3, y4, _, _, _, _, _⟩ := (HTB.out _ _ _ _ _ _ HR4.out).2.1
  go_wp2_with fail
  refine (show Calls Tryd.prog 31 _ _ _ from HSH.out).mono ?_
  rintro e w8 ⟨hk8, hy8, rk, ri, rn, rAL, rnl, rcl, rAK, rnk, rck, rfl, ht8⟩
  rw [er_zero] at hy8
  have hR8 := HR4.out.nextY (by have := HS1.out; omega) (by have := HS1.out; omega) hk8
  have hba := alB w8 (.cells #[.int .i64 rk, .int .i64 ri, .string rn, .slice rAL rnl rcl, .slice rAK rnk rck] 25)
  have hR9 := hR8.next (by have := HS1.out; omega) ((Kp.refl _ _).newP hba) (hR8.wk.next hba)
  have hP9 := B5.new w8 (.int .i64 rk) (.int .i64 ri) (.string rn) (.slice rAL rnl rcl) (.slice rAK rnk rck)
  have ht9 := tv_next ht8.tmV hba
  have hy9 := hy8.next hba
  have hlt8 : w.heap.size + 1 + 1 < w8.heap.size := (HTB.out _ _ _ _ _ _ hR8).2.2.2
  obtain ⟨w9, hw9⟩ : ∃ z, z = w8.alloc (.cells #[.int .i64 rk, .int .i64 ri, .string rn, .slice rAL rnl rcl, .slice rAK rnk rck] 25) := ⟨_, rfl⟩
  rw [← hw9] at hR9 hP9 ht9 hy9
  have HW9 := Lib.hid hw9
  have HR9 := Lib.hid hR9
  have HP9 := Lib.hid hP9
  have HT9 := Lib.hid ht9
  have HY9 := Lib.hid hy9
  clear hk8 hy8 ht8 hR8 hba hR9 hP9 ht9 hy9 hw9 y0 y1 y2 y3 y4 HSH HR4 HY4
  go_upto_region 3 with fail
  rw [← HW9.out]
  clear HW9
  obtain ⟨pb, hpb⟩ : ∃ z, z = w8.heap.size := ⟨_, rfl⟩
  rw [← hpb] at HP9 hlt8 ⊢
  clear hpb
  obtain ⟨X, hX⟩ : ∃ z, z = cpT (rfR (D : Int) 0) part 0 := ⟨_, rfl⟩
  rw [← hX] at HT9 HY9
  have HXX := Lib.hid hX
  clear hX
  have HCT := Lib.hid (show ∀ x, raR part (.mk k i nm ls ks) D = x → raR part (.mk k i nm ls ks) D = x from fun _ h => h)
  have HRR : Hid (raR part (.mk k i nm ls ks) D = if X.e = 0 ∧ sameT (.mk k i nm ls ks) X.t = true then some ⟨1, 1, big D, vr D⟩ else if k = 0 then some (if (D : Int) ≤ i then ⟨1, 0, big (i + 1), vr (i + 1)⟩ else ⟨1, 0, 0, .mk k i nm ls ks⟩) else none) := Lib.hid (by rw [HXX.out]; simp only [raR])
  clear HCT HXX
  obtain ⟨u0, u1, _, _⟩ := HY9.out
  obtain ⟨x0, x1, x2, x3, x4, _, _, _, _, _⟩ := (HTB.out _ _ _ _ _ _ HR9.out).1
  obtain ⟨y0, y1, y2, y3, y4, _, _, _, _, _⟩ := HP9.out
  have hs9 := (HK1.out _ _ _ _ _ _ HR9.out).size
  by_cases hxe : X.e = 0
  case' pos =>
    have dx : (X.e == 0) = true := by simpa using hxe
    have HXE := Lib.hid hxe
    go_wp2_with fail
    refine (rsameT_any (szT (.mk k i nm ls ks)) (.mk k i nm ls ks) X.t _ _ w9.heap.size w9 (Nat.le_refl _) (TmP.tmV (HTM.out w9 (HK1.out _ _ _ _ _ _ HR9.out)).1) HT9.out (Nat.le_refl _)).mono ?_
    rintro e w10 ⟨rfl, hb10⟩
    have hR10 := HR9.out.next (by have := HS1.out; omega) ((Kp.refl _ _).newP hb10) (HR9.out.wk.next hb10)
    have HR10 := Lib.hid hR10
    clear hR10 hb10 x0 x1 x2 x3 x4 y0 y1 y2 y3 y4 u0 u1 hs9
    by_cases hsm : sameT (.mk k i nm ls ks) X.t = true
    · have HX := Lib.hid (show cpT (raR part) (.mk k i nm ls ks) D = ⟨1, 1, big D, vr D⟩ from cpT_some (by rw [HRR.out, if_pos ⟨HXE.out, hsm⟩]))
      clear HRR
      obtain ⟨q0, q1, q2, q3⟩ := HR10.out.wk
      have wr0 : IntKind.i64.wrap (n + 1) = n + 1 := wrap_in _ (by omega)
      go_upto_region 5 with fail
      have hR11 := HR10.out.next (by have := HS1.out; omega) ((Kp.refl _ _).setP 1 (.int .i64 (n + 1))) (HR10.out.wk.setN (n + 1))
      generalize w10.setCell ⟨pw, 1, none⟩ (.int .i64 (n + 1)) = w11 at hR11 ⊢
      have HR11 := Lib.hid hR11
      clear hR11 q0 q1 q2 q3
      go_wp2_with fail
      refine (rvar_any pw e0 (n + 1) (D : Int) _ HR11.out.wk).mono ?_
      rintro e w12 ⟨rfl, hk12, hw12⟩
      have hR12 := HR11.out.next (by have := HS1.out; omega) hk12 hw12
      have HF := Lib.hid (HFX.out _ _ _ _ _ _ hR12)
      have hlt12 := (HTB.out _ _ _ _ _ _ hR12).2.2.2
      clear hk12 hw12 hR12
      have hd := done_at (b := w.heap.size + 1 + 1) (B := B) (by omega) (by omega) HF.out.1 HF.out.2.1 HF.out.2.2 (t := vr (D : Int)) (tmP_vr' _ _ _ none 0 none 0)
      unfold set5 at hd
      simp only [Nat.zero_add] at hd
      have HD := Lib.hid hd
      clear hd
      obtain ⟨z0, z1, z2, z3, z4, g0, g1, g2, g3, g4⟩ := HF.out.2.2
      go_wp2_with fail
      generalize (((((w12.setCell ⟨w.heap.size + 1 + 1, 0, none⟩ (.int .i64 0)).setCell ⟨w.heap.size + 1 + 1, 1, none⟩ (.int .i64 (D : Int))).setCell ⟨w.heap.size + 1 + 1, 2, none⟩ (.string ⟨#[]⟩)).setCell ⟨w.heap.size + 1 + 1, 3, none⟩ (.slice none 0 0)).setCell ⟨w.heap.size + 1 + 1, 4, none⟩ (.slice none 0 0)) = w3 at HD ⊢
      clear z0 z1 z2 z3 z4 g0 g1 g2 g3 g4
      obtain ⟨z0, z1, z2, z3, z4, g0, g1, g2, g3, g4⟩ := HD.out.1
      exact bodyPost_ret (v := .agg #[.int .i64 0, .int .i64 (D : Int), .string ⟨#[]⟩, .slice none 0 0, .slice none 0 0]) (by simp [results, Tryd.results45, go_sem, z0, z1, z2, z3, z4]) rfl (by rw [HX.out]; exact ⟨HD.out.2.1, by show WkS pw _ (n + ((1 : Nat) : Int)) w3; exact HD.out.2.2.1, _, _, _, _, _, _, _, _, _, rfl, HD.out.2.2.2⟩)
    have hsf : sameT (.mk k i nm ls ks) X.t = false := by simpa using hsm
    have HMI := Lib.hid (show ¬ (X.e = 0 ∧ sameT (.mk k i nm ls ks) X.t = true) from fun e => hsm e.2)
    go_upto_region 6 with fail
    clear hsm hsf hxe dx HXE
  case' neg =>
    have dx : (X.e == 0) = false := by simpa using hxe
    have HMI := Lib.hid (show ¬ (X.e = 0 ∧ sameT (.mk k i nm ls ks) X.t = true) from fun e => hxe e.1)
    go_upto_region 6 with fail
    have HR10 := HR9
    generalize w9 = w10 at *
    clear hxe dx x0 x1 x2 x3 x4 y0 y1 y2 y3 y4 u0 u1 hs9
  all_goals
    have HR2 := Lib.hid (show raR part (.mk k i nm ls ks) D = if k = 0 then some (if (D : Int) ≤ i then ⟨1, 0, big (i + 1), vr (i + 1)⟩ else ⟨1, 0, 0, .mk k i nm ls ks⟩) else none by rw [HRR.out, if_neg HMI.out])
    clear HRR HMI HT9 HY9 HP9 HR9
    obtain ⟨x0, x1, x2, x3, x4, _, _, _, _, _⟩ := (HTB.out _ _ _ _ _ _ HR10.out).1
    have hlt10 := (HTB.out _ _ _ _ _ _ HR10.out).2.2.2
    by_cases hk : k = 0
    · have hi := hQ hk
      subst hk
      by_cases h1 : (D : Int) ≤ i
      · have d1 : decide ((D : Int) ≤ i) = true := decide_eq_true h1
        have HX := Lib.hid (show cpT (raR part) (.mk 0 i nm ls ks) D = ⟨1, 0, big (i + 1), vr (i + 1)⟩ from cpT_some (by rw [HR2.out, if_pos rfl, if_pos h1]))
        have wr0 : IntKind.i64.wrap (i + 1) = i + 1 := wrap_in _ (by omega)
        go_wp2_with fail
        refine (rvar_any pw e0 n (i + 1) _ HR10.out.wk).mono ?_
        rintro e w12 ⟨rfl, hk12, hw12⟩
        have hR12 := HR10.out.next (by have := HS1.out; omega) hk12 hw12
        have HF := Lib.hid (HFX.out _ _ _ _ _ _ hR12)
        have hlt12 := (HTB.out _ _ _ _ _ _ hR12).2.2.2
        clear hk12 hw12 hR12 x0 x1 x2 x3 x4
        have hd := done_at (b := w.heap.size + 1 + 1) (B := B) (by omega) (by omega) HF.out.1 HF.out.2.1 HF.out.2.2 (t := vr (i + 1)) (tmP_vr' _ _ _ none 0 none 0)
        unfold set5 at hd
        simp only [Nat.zero_add] at hd
        have HD := Lib.hid hd
        clear hd
        obtain ⟨z0, z1, z2, z3, z4, g0, g1, g2, g3, g4⟩ := HF.out.2.2
        go_wp2_with fail
        generalize (((((w12.setCell ⟨w.heap.size + 1 + 1, 0, none⟩ (.int .i64 0)).setCell ⟨w.heap.size + 1 + 1, 1, none⟩ (.int .i64 (i + 1))).setCell ⟨w.heap.size + 1 + 1, 2, none⟩ (.string ⟨#[]⟩)).setCell ⟨w.heap.size + 1 + 1, 3, none⟩ (.slice none 0 0)).setCell ⟨w.heap.size + 1 + 1, 4, none⟩ (.slice none 0 0)) = w3 at HD ⊢
        clear z0 z1 z2 z3 z4 g0 g1 g2 g3 g4
        obtain ⟨z0, z1, z2, z3, z4, g0, g1, g2, g3, g4⟩ := HD.out.1
        exact bodyPost_ret (v := .agg #[.int .i64 0, .int .i64 (i + 1), .string ⟨#[]⟩, .slice none 0 0, .slice none 0 0]) (by simp [results, Tryd.results45, go_sem, z0, z1, z2, z3, z4]) rfl (by rw [HX.out]; exact ⟨HD.out.2.1, by show WkS pw _ (n + ((0 : Nat) : Int)) w3; rw [Int.natCast_zero, Int.add_zero]; exact HD.out.2.2.1, _, _, _, _, _, _, _, _, _, rfl, HD.out.2.2.2⟩)
      · have d1 : decide ((D : Int) ≤ i) = false := decide_eq_false h1
        have HX := Lib.hid (show cpT (raR part) (.mk 0 i nm ls ks) D = ⟨1, 0, 0, .mk 0 i nm ls ks⟩ from cpT_some (by rw [HR2.out, if_pos rfl, if_neg h1]))
        have HF := Lib.hid (HFX.out _ _ _ _ _ _ HR10.out)
        have hd := done_at (b := w.heap.size + 1 + 1) (B := B) (by omega) (by omega) HF.out.1 HF.out.2.1 HF.out.2.2 (t := .mk 0 i nm ls ks) (TmP.mono (fun q h _ => ⟨⟨.inl h.1, h.2⟩, by omega⟩) _ _ (HTM.out _ HF.out.1).1)
        unfold set5 at hd
        simp only [Nat.zero_add] at hd
        have HD := Lib.hid hd
        clear hd
        obtain ⟨z0, z1, z2, z3, z4, g0, g1, g2, g3, g4⟩ := HF.out.2.2
        go_wp2_with fail
        generalize (((((w10.setCell ⟨w.heap.size + 1 + 1, 0, none⟩ (.int .i64 0)).setCell ⟨w.heap.size + 1 + 1, 1, none⟩ (.int .i64 i)).setCell ⟨w.heap.size + 1 + 1, 2, none⟩ (.string nm)).setCell ⟨w.heap.size + 1 + 1, 3, none⟩ (.slice AL ls.length cl)).setCell ⟨w.heap.size + 1 + 1, 4, none⟩ (.slice AK ks.length ck)) = w3 at HD ⊢
        clear z0 z1 z2 z3 z4 g0 g1 g2 g3 g4
        obtain ⟨z0, z1, z2, z3, z4, g0, g1, g2, g3, g4⟩ := HD.out.1
        exact bodyPost_ret (v := .agg #[.int .i64 0, .int .i64 i, .string nm, .slice AL ls.length cl, .slice AK ks.length ck]) (by simp [results, Tryd.results45, go_sem, z0, z1, z2, z3, z4]) rfl (by rw [HX.out]; exact ⟨HD.out.2.1, by show WkS pw _ (n + ((0 : Nat) : Int)) w3; rw [er_zero_right, Int.natCast_zero, Int.add_zero]; exact HD.out.2.2.1, _, _, _, _, _, _, _, _, _, rfl, HD.out.2.2.2⟩)
    · have dk : (k == 0) = false := by simpa using hk
      have HX := Lib.hid (show cpT (raR part) (.mk k i nm ls ks) D = ⟨1 + (cpL (raR part) ks k D 0).n, (cpL (raR part) ks k D 0).f, (cpL (raR part) ks k D 0).e, .mk k i nm ls (cpL (raR part) ks k D 0).ts⟩ from cpT_none (by rw [HR2.out, if_neg hk]))
      obtain ⟨i0, hi, hz0, hz1, hz2⟩ := info_parts infoTm
      clear HR2
      go_wp2_with fail
      go_loopw [11, 12] (fun s11 s12 wx => ∃ (j : Nat) (ts : List Tm) (us : List Value) (ea : Int) (fa : Nat) (sv : Value), sv = s11 ∧ j ≤ ks.length ∧ s12 = .int .i64 (j : Int) ∧ Hid (ts.length = j) ∧ fa ≤ szL (ks.take j) ∧ Hid (fa + (cpL (raR part) (ks.drop j) k D j).f = (cpL (raR part) ks k D 0).f ∧ er ea (cpL (raR part) (ks.drop j) k D j).e = (cpL (raR part) ks k D 0).e ∧ ts ++ (cpL (raR part) (ks.drop j) k D j).ts = (cpL (raR part) ks k D 0).ts) ∧ Hid (RS w1 pw B pk pi pn pAL pnl pcl pAK pnk pck (er e0 ea) (n + (fa : Int)) ts us sv wx)) (fun _ s12 _ => ks.length - (intOf s12).toNat)
      case atStart => exact ⟨0, [], [], 0, 0, _, rfl, Nat.zero_le _, rfl, Lib.hid rfl, Nat.zero_le _, Lib.hid ⟨Nat.zero_add _, er_zero _, rfl⟩, Lib.hid (by rw [er_zero_right, Int.natCast_zero, Int.add_zero]; exact HR10.out)⟩
      case round =>
        obtain ⟨j, ts, us, ea, fa, sv, hsv, hj, rfl, hlen, hfa, HJ, HRS⟩ := hrel
        subst hsv
        clear HR10 x0 x1 x2 x3 x4
        obtain ⟨x0, x1, x2, x3, x4, f0, f1, f2, f3, f4⟩ := (HTB.out _ _ _ _ _ _ HRS.out).1
        by_cases hjl : j < ks.length
        · obtain ⟨kb, ko, rfl, hkS, hkc⟩ := HKS.out (by omega)
          obtain ⟨c0, c1, c2, c3, c4, u0, u1, u2, u3, u4, hqt⟩ := hkc.at_ (List.getElem?_eq_getElem hjl)
          obtain ⟨qk, qi, qn, qAL, qnl, qcl, qAK, qnk, qck, hqe, _⟩ := hqt.open_
          simp only [Value.agg.injEq, Array.mk.injEq, List.cons.injEq, and_true] at hqe
          obtain ⟨rfl, rfl, rfl, rfl, rfl⟩ := hqe
          have hst := szL_mem (List.getElem_mem hjl)
          have htk := szL_take (List.getElem?_eq_getElem hjl)
          have htl' := szL_take_le ks (j + 1)
          have hsz' := HSZ.out
          rw [szT] at hsz'
          have hnn' := hnn
          rw [szT] at hnn'
          have hb1 : bbN k j ≤ 1 := by unfold bbN; split <;> omega
          have HD1 := Lib.hid (drop_cp (raR part) (k := k) (d := D) hjl)
          have HDF := Lib.hid (drop_cpf (raR part) (k := k) (d := D) hjl)
          have HBD := Lib.hid (show binI k (j : Int) = ((bbN k j : Nat) : Int) from binI_bind k j)
          have hqq := HQ.out.kid hjl
          have HLE := Lib.hid (show fa + (cpT (raR part) ks[j] (D + bbN k j)).f ≤ szL (ks.take (j + 1)) by have := ra_f part ks[j] (D + bbN k j); omega)
          have hIH := fun (e1 : Int) (W : World) (hW : TmP W (fun q => q < B ∧ q ≠ pw) ks[j] (.agg #[.int .i64 qk, .int .i64 qi, .string qn, .slice qAL qnl qcl, .slice qAK qnk qck])) (hP : TmP W (fun q => q < B ∧ q ≠ pw) part (.agg #[.int .i64 pk, .int .i64 pi, .string pn, .slice pAL pnl pcl, .slice pAK pnk pck])) (hBW : B ≤ W.heap.size) (hk : WkS pw e1 (n + (fa : Int)) W) => IH.out ks[j] _ _ (D + bbN k j) B pw e1 (n + (fa : Int)) W (by omega) (by omega) (by omega) hqq hW hP hBW hk
          have HIH := Lib.hid hIH
          have HQT := Lib.hid hqt
          have hdb : D + bbN k j ≤ 1000000 := by omega
          clear hst htk htl' hsz' hnn' hqq hIH hqt
          generalize ks[j] = q at *
          generalize hbb : bbN k j = bb at *
          have wr2 : IntKind.i64.wrap ((D : Int) + (bb : Int)) = (D : Int) + (bb : Int) := wrap_in _ (by omega)
          clear hbb
          have HBe := Lib.hid (fun W => rbelow_any k j W)
          have hkb : kb < w.heap.size := by omega
          have HU := Lib.hid (And.intro u0 (And.intro u1 (And.intro u2 (And.intro u3 u4))))
          clear u0 u1 u2 u3 u4 hkc
          have HNX := Lib.hid (show ∀ (e1 n1 : Int) (ts : List Tm) (us : List Value) (sv : Value) (W : World), RS w1 pw B pk pi pn pAL pnl pcl pAK pnk pck e1 n1 ts us sv W → W.cell? ⟨w.heap.size, 0, none⟩ = some (.int .i64 k) ∧ W.cell? ⟨w.heap.size, 4, none⟩ = some (.slice (some ⟨kb, ko, none⟩) ks.length ck) ∧ W.cell? ⟨kb, ko + j * 5, none⟩ = some (.int .i64 qk) ∧ W.cell? ⟨kb, ko + j * 5 + 1, none⟩ = some (.int .i64 qi) ∧ W.cell? ⟨kb, ko + j * 5 + 2, none⟩ = some (.string qn) ∧ W.cell? ⟨kb, ko + j * 5 + 3, none⟩ = some (.slice qAL qnl qcl) ∧ W.cell? ⟨kb, ko + j * 5 + 4, none⟩ = some (.slice qAK qnk qck) ∧ W.cell? ⟨w.heap.size + 1, 0, none⟩ = some (.int .i64 pk) ∧ W.cell? ⟨w.heap.size + 1, 1, none⟩ = some (.int .i64 pi) ∧ W.cell? ⟨w.heap.size + 1, 2, none⟩ = some (.string pn) ∧ W.cell? ⟨w.heap.size + 1, 3, none⟩ = some (.slice pAL pnl pcl) ∧ W.cell? ⟨w.heap.size + 1, 4, none⟩ = some (.slice pAK pnk pck) from fun e1 n1 ts us sv W h => by
            have hT := (HTB.out _ _ _ _ _ _ h).1
            have hP := (HTB.out _ _ _ _ _ _ h).2.1
            have hK := HK1.out _ _ _ _ _ _ h
            exact ⟨hT.x0, hT.x4, (hK.cell (p := ⟨kb, ko + j * 5, none⟩) hkb hkS.2).trans HU.out.1, (hK.cell (p := ⟨kb, ko + j * 5 + 1, none⟩) hkb hkS.2).trans HU.out.2.1, (hK.cell (p := ⟨kb, ko + j * 5 + 2, none⟩) hkb hkS.2).trans HU.out.2.2.1, (hK.cell (p := ⟨kb, ko + j * 5 + 3, none⟩) hkb hkS.2).trans HU.out.2.2.2.1, (hK.cell (p := ⟨kb, ko + j * 5 + 4, none⟩) hkb hkS.2).trans HU.out.2.2.2.2, hP.x0, hP.x1, hP.x2, hP.x3, hP.x4⟩)
          go_upto_region 14 with fail
          have hpw1 : pw < w1.heap.size := by have := HS1.out; omega
          have hB1 : B ≤ w1.heap.size := by have := HS1.out; omega
          have hdr : RS w1 pw B pk pi pn pAL pnl pcl pAK pnk pck (er e0 ea) (n + (fa : Int)) ts us sv wr.drew := HRS.out.next hpw1 ((Kp.refl _ _).newP (Below.refl _ _).drew) (HRS.out.wk.next (Below.refl _ _).drew)
          have HR := Lib.hid hdr
          clear hdr
          have HI := Lib.hid (show ∀ (e1 : Int) (W : World), RS w1 pw B pk pi pn pAL pnl pcl pAK pnk pck e1 (n + (fa : Int)) ts us sv W → Calls Tryd.prog 45 #[.pointer (some ⟨pw, 0, none⟩), .agg #[.int .i64 qk, .int .i64 qi, .string qn, .slice qAL qnl qcl, .slice qAK qnk qck], .agg #[.int .i64 pk, .int .i64 pi, .string pn, .slice pAL pnl pcl, .slice pAK pnk pck], .int .i64 ((D : Int) + (bb : Int))] W (RaP pw B e1 (n + (fa : Int)) (cpT (raR part) q (D + bb)) W) from fun e1 W h => by
            have hK := HK1.out _ _ _ _ _ _ h
            have h' := HIH.out e1 W (tmP_kp HQT.out hK (fun q h => h.2)) (HTM.out W hK).2 (by have := hK.size; omega) h.wk
            rw [Int.natCast_add] at h'
            exact h')
          have HA8 := Lib.hid (show ∀ (e1 : Int) (W : World) (ew : Ending) (w8 : World), RS w1 pw B pk pi pn pAL pnl pcl pAK pnk pck e1 (n + (fa : Int)) ts us sv W → RaP pw B e1 (n + (fa : Int)) (cpT (raR part) q (D + bb)) W ew w8 → ∃ rk ri rn rAL rnl rcl rAK rnk rck, ew = .returned (.agg #[.int .i64 rk, .int .i64 ri, .string rn, .slice rAL rnl rcl, .slice rAK rnk rck]) ∧ RS w1 pw B pk pi pn pAL pnl pcl pAK pnk pck (er e1 (cpT (raR part) q (D + bb)).e) (n + (fa : Int) + ((cpT (raR part) q (D + bb)).f : Int)) ts us sv w8 ∧ TmP w8 (fun q => (q < B ∨ w1.heap.size + 2 ≤ q) ∧ q ≠ pw ∧ sv.ownBlock ≠ some q) (cpT (raR part) q (D + bb)).t (.agg #[.int .i64 rk, .int .i64 ri, .string rn, .slice rAL rnl rcl, .slice rAK rnk rck]) from fun e1 W ew w8 h h8 => by
            obtain ⟨hk8, hw8, rk, ri, rn, rAL, rnl, rcl, rAK, rnk, rck, rfl, ht8⟩ := h8
            refine ⟨rk, ri, rn, rAL, rnl, rcl, rAK, rnk, rck, rfl, h.next hpw1 hk8 hw8, TmP.mono (fun q hq _ => ⟨hq.1.imp id (fun h' => by have := h.br.lt; omega), hq.2, fun e => ?_⟩) _ _ ht8⟩
            rcases h.own.2 with ⟨hv, _⟩ | ⟨g, cap, cur, hv, hg, hh, _⟩
            · rw [hv] at e; simp [Value.ownBlock] at e
            · rw [hv] at e
              simp only [Value.ownBlock, Option.some.injEq] at e
              have := (Array.getElem?_eq_some_iff.1 hh).1
              rcases hq.1 with h' | h'
              · omega
              · omega)
          have HNX2 := Lib.hid (fun (e1 n1 : Int) (W : World) (o : Obj) (h : RS w1 pw B pk pi pn pAL pnl pcl pAK pnk pck e1 n1 ts us sv W) => HNX.out e1 n1 ts us sv (W.alloc o) (h.next hpw1 ((Kp.refl _ _).newP ((Below.refl _ _).alloc (Nat.le_refl _) o)) (h.wk.next ((Below.refl _ _).alloc (Nat.le_refl _) o))))
          have htl : ts.length < ks.length := by have := hlen.out; omega
          clear x0 x1 x2 x3 x4 f0 f1 f2 f3 f4 HRS HIH
          refine wp_region_held_drew (S := fun w' => w'.cell? ⟨w.heap.size, 0, none⟩ = some (.int .i64 k) ∧ w'.cell? ⟨w.heap.size, 4, none⟩ = some (.slice (some ⟨kb, ko, none⟩) ks.length ck) ∧ w'.cell? ⟨kb, ko + j * 5, none⟩ = some (.int .i64 qk) ∧ w'.cell? ⟨kb, ko + j * 5 + 1, none⟩ = some (.int .i64 qi) ∧ w'.cell? ⟨kb, ko + j * 5 + 2, none⟩ = some (.string qn) ∧ w'.cell? ⟨kb, ko + j * 5 + 3, none⟩ = some (.slice qAL qnl qcl) ∧ w'.cell? ⟨kb, ko + j * 5 + 4, none⟩ = some (.slice qAK qnk qck) ∧ w'.cell? ⟨w.heap.size + 1, 0, none⟩ = some (.int .i64 pk) ∧ w'.cell? ⟨w.heap.size + 1, 1, none⟩ = some (.int .i64 pi) ∧ w'.cell? ⟨w.heap.size + 1, 2, none⟩ = some (.string pn) ∧ w'.cell? ⟨w.heap.size + 1, 3, none⟩ = some (.slice pAL pnl pcl) ∧ w'.cell? ⟨w.heap.size + 1, 4, none⟩ = some (.slice pAK pnk pck)) (by kernel_rfl) (HNX.out _ _ _ _ _ _ HR.out) ?_
          intro hS
          refine wpAnyH_take (i := 0) (oi := { dst := some 59, op := Op.move (Operand.tmp 11), type := 23, pos := "ref.go:202", after := #[], guard := none }) (v := sv) rfl (by kernel_rfl) (by kernel_rfl) (by kernel_rfl) (fun _ _ _ h => h) (Or.inl ⟨by rfl, ?_⟩) hS ?_
          · intro w9 hSw
            obtain ⟨s0, s1, s2, s3, s4, s5, s6, s7, s8, s9, s10, s11⟩ := hSw
            go_simp
          simp only [Act.put, List.setIfInBounds_toArray, List.set_cons_zero, List.set_cons_succ]
          refine wpAnyH_take (i := 1) (oi := { dst := some 60, op := Op.move (Operand.tmp 0), type := 61, pos := "ref.go:202", after := #[], guard := none }) (v := .pointer (some ⟨pw, 0, none⟩)) rfl (by kernel_rfl) (by kernel_rfl) (by kernel_rfl) (fun _ _ _ h => h) (Or.inl ⟨by rfl, ?_⟩) hS ?_
          · intro w9 hSw
            obtain ⟨s0, s1, s2, s3, s4, s5, s6, s7, s8, s9, s10, s11⟩ := hSw
            go_simp
          simp only [Act.put, List.setIfInBounds_toArray, List.set_cons_zero, List.set_cons_succ]
          refine wpAnyH_take (i := 2) (oi := { dst := some 61, op := Op.fieldAddr 25 (Operand.tmp 5) 4, type := 0, pos := "ref.go:202", after := #[], guard := none }) (v := .pointer (some ⟨w.heap.size, 4, none⟩)) rfl (by kernel_rfl) (by kernel_rfl) (by kernel_rfl) (fun _ _ _ h => h) (Or.inl ⟨by rfl, ?_⟩) hS ?_
          · intro w9 hSw
            obtain ⟨s0, s1, s2, s3, s4, s5, s6, s7, s8, s9, s10, s11⟩ := hSw
            go_simp
          simp only [Act.put, List.setIfInBounds_toArray, List.set_cons_zero, List.set_cons_succ]
          refine wpAnyH_take (i := 3) (oi := { dst := some 62, op := Op.load 23 (Operand.tmp 61), type := 23, pos := "ref.go:202", after := #[{ on := 2, ground := Ground.data }], guard := none }) (v := .slice (some ⟨kb, ko, none⟩) ks.length ck) rfl (by kernel_rfl) (by kernel_rfl) (by kernel_rfl) (fun _ _ _ h => h) (Or.inl ⟨by rfl, ?_⟩) hS ?_
          · intro w9 hSw
            obtain ⟨s0, s1, s2, s3, s4, s5, s6, s7, s8, s9, s10, s11⟩ := hSw
            go_simp
          simp only [Act.put, List.setIfInBounds_toArray, List.set_cons_zero, List.set_cons_succ]
          refine wpAnyH_take (i := 4) (oi := { dst := some 63, op := Op.move (Operand.tmp 12), type := 3, pos := "ref.go:202", after := #[], guard := none }) (v := .int .i64 (j : Int)) rfl (by kernel_rfl) (by kernel_rfl) (by kernel_rfl) (fun _ _ _ h => h) (Or.inl ⟨by rfl, ?_⟩) hS ?_
          · intro w9 hSw
            obtain ⟨s0, s1, s2, s3, s4, s5, s6, s7, s8, s9, s10, s11⟩ := hSw
            go_simp
          simp only [Act.put, List.setIfInBounds_toArray, List.set_cons_zero, List.set_cons_succ]
          refine wpAnyH_take (i := 5) (oi := { dst := some 64, op := Op.indexAddr 23 (Operand.tmp 62) (Operand.tmp 63), type := 0, pos := "ref.go:202", after := #[{ on := 3, ground := Ground.data }, { on := 4, ground := Ground.data }], guard := none }) (v := .pointer (some ⟨kb, ko + j * 5, none⟩)) rfl (by kernel_rfl) (by kernel_rfl) (by kernel_rfl) (fun _ _ _ h => h) (Or.inl ⟨by rfl, ?_⟩) hS ?_
          · intro w9 hSw
            obtain ⟨s0, s1, s2, s3, s4, s5, s6, s7, s8, s9, s10, s11⟩ := hSw
            go_simp
          simp only [Act.put, List.setIfInBounds_toArray, List.set_cons_zero, List.set_cons_succ]
          refine wpAnyH_take (i := 6) (oi := { dst := some 65, op := Op.load 25 (Operand.tmp 64), type := 25, pos := "ref.go:202", after := #[{ on := 5, ground := Ground.data }], guard := none }) (v := .agg #[.int .i64 qk, .int .i64 qi, .string qn, .slice qAL qnl qcl, .slice qAK qnk qck]) rfl (by kernel_rfl) (by kernel_rfl) (by kernel_rfl) (fun _ _ _ h => h) (Or.inl ⟨by rfl, ?_⟩) hS ?_
          · intro w9 hSw
            obtain ⟨s0, s1, s2, s3, s4, s5, s6, s7, s8, s9, s10, s11⟩ := hSw
            go_simp
          simp only [Act.put, List.setIfInBounds_toArray, List.set_cons_zero, List.set_cons_succ]
          refine wpAnyH_take (i := 7) (oi := { dst := some 66, op := Op.load 25 (Operand.tmp 6), type := 25, pos := "ref.go:202", after := #[], guard := none }) (v := .agg #[.int .i64 pk, .int .i64 pi, .string pn, .slice pAL pnl pcl, .slice pAK pnk pck]) rfl (by kernel_rfl) (by kernel_rfl) (by kernel_rfl) (fun _ _ _ h => h) (Or.inl ⟨by rfl, ?_⟩) hS ?_
          · intro w9 hSw
            obtain ⟨s0, s1, s2, s3, s4, s5, s6, s7, s8, s9, s10, s11⟩ := hSw
            go_simp
          simp only [Act.put, List.setIfInBounds_toArray, List.set_cons_zero, List.set_cons_succ]
          refine wpAnyH_take (i := 8) (oi := { dst := some 67, op := Op.move (Operand.tmp 3), type := 3, pos := "ref.go:202", after := #[], guard := none }) (v := .int .i64 (D : Int)) rfl (by kernel_rfl) (by kernel_rfl) (by kernel_rfl) (fun _ _ _ h => h) (Or.inl ⟨by rfl, ?_⟩) hS ?_
          · intro w9 hSw
            obtain ⟨s0, s1, s2, s3, s4, s5, s6, s7, s8, s9, s10, s11⟩ := hSw
            go_simp
          simp only [Act.put, List.setIfInBounds_toArray, List.set_cons_zero, List.set_cons_succ]
          refine wpAnyH_take (i := 9) (oi := { dst := some 68, op := Op.fieldAddr 25 (Operand.tmp 5) 0, type := 0, pos := "ref.go:202", after := #[], guard := none }) (v := .pointer (some ⟨w.heap.size, 0, none⟩)) rfl (by kernel_rfl) (by kernel_rfl) (by kernel_rfl) (fun _ _ _ h => h) (Or.inl ⟨by rfl, ?_⟩) hS ?_
          · intro w9 hSw
            obtain ⟨s0, s1, s2, s3, s4, s5, s6, s7, s8, s9, s10, s11⟩ := hSw
            go_simp
          simp only [Act.put, List.setIfInBounds_toArray, List.set_cons_zero, List.set_cons_succ]
          refine wpAnyH_take (i := 10) (oi := { dst := some 69, op := Op.load 3 (Operand.tmp 68), type := 3, pos := "ref.go:202", after := #[{ on := 9, ground := Ground.data }], guard := none }) (v := .int .i64 k) rfl (by kernel_rfl) (by kernel_rfl) (by kernel_rfl) (fun _ _ _ h => h) (Or.inl ⟨by rfl, ?_⟩) hS ?_
          · intro w9 hSw
            obtain ⟨s0, s1, s2, s3, s4, s5, s6, s7, s8, s9, s10, s11⟩ := hSw
            go_simp
          simp only [Act.put, List.setIfInBounds_toArray, List.set_cons_zero, List.set_cons_succ]
          refine wpAnyH_take (i := 11) (oi := { dst := some 70, op := Op.move (Operand.tmp 12), type := 3, pos := "ref.go:202", after := #[], guard := none }) (v := .int .i64 (j : Int)) rfl (by kernel_rfl) (by kernel_rfl) (by kernel_rfl) (fun _ _ _ h => h) (Or.inl ⟨by rfl, ?_⟩) hS ?_
          · intro w9 hSw
            obtain ⟨s0, s1, s2, s3, s4, s5, s6, s7, s8, s9, s10, s11⟩ := hSw
            go_simp
          simp only [Act.put, List.setIfInBounds_toArray, List.set_cons_zero, List.set_cons_succ]
          refine wpAnyH_ready (rs := [12]) (by kernel_rfl) (List.cons_ne_nil _ _) ?_
          refine AllReadyH.cons (o := { dst := some 71, op := Op.call { callee := Callee.value (Operand.func 59), args := #[Operand.tmp 69, Operand.tmp 70], argTypes := #[3, 3] }, type := 3, pos := "ref.go:202", after := #[{ on := 10, ground := Ground.data }, { on := 11, ground := Ground.data }], guard := none }) rfl (fun K hK => ?_) AllReadyH.nil
          go_simp
          go_at_call 59
          refine (HBe.out _).mono ?_
          rw [HBD.out]
          rintro e w7 ⟨rfl, hw7⟩
          have HR := Lib.hid (show RS w1 pw B pk pi pn pAL pnl pcl pAK pnk pck (er e0 ea) (n + (fa : Int)) ts us sv w7 from by rw [hw7]; exact HR.out)
          clear hw7
          try go_simp
          refine hK _ _ (HNX.out _ _ _ _ _ _ HR.out) ?_
          clear hS
          intro hS
          clear hK K
          refine wpAnyH_take (i := 13) (oi := { dst := some 72, op := Op.binOp BinOp.add 3 (Operand.tmp 67) (Operand.tmp 71) 3, type := 3, pos := "ref.go:202", after := #[{ on := 8, ground := Ground.data }, { on := 12, ground := Ground.data }], guard := none }) (v := .int .i64 ((D : Int) + (bb : Int))) rfl (by kernel_rfl) (by kernel_rfl) (by kernel_rfl) (fun _ _ _ h => h) (Or.inl ⟨by rfl, ?_⟩) hS ?_
          · intro w9 hSw
            obtain ⟨s0, s1, s2, s3, s4, s5, s6, s7, s8, s9, s10, s11⟩ := hSw
            go_simp
          simp only [Act.put, List.setIfInBounds_toArray, List.set_cons_zero, List.set_cons_succ]
          refine wpAnyH_ready (rs := [14]) (by kernel_rfl) (List.cons_ne_nil _ _) ?_
          refine AllReadyH.cons (o := { dst := some 73, op := Op.call { callee := Callee.value (Operand.func 45), args := #[Operand.tmp 60, Operand.tmp 65, Operand.tmp 66, Operand.tmp 72], argTypes := #[61, 25, 25, 3] }, type := 25, pos := "ref.go:202", after := #[{ on := 1, ground := Ground.data }, { on := 6, ground := Ground.data }, { on := 7, ground := Ground.data }, { on := 13, ground := Ground.data }, { on := 12, ground := Ground.chain }], guard := none }) rfl (fun K hK => ?_) AllReadyH.nil
          go_simp
          go_at_call 45
          refine (HI.out _ _ HR.out).mono ?_
          intro e w8 h8
          obtain ⟨rk, ri, rn, rAL, rnl, rcl, rAK, rnk, rck, rfl, hR8, ht8⟩ := HA8.out _ _ _ _ HR.out h8
          have HR := Lib.hid hR8
          have HT8 := Lib.hid ht8
          clear h8 hR8 ht8
          try go_simp
          refine hK _ _ (HNX.out _ _ _ _ _ _ HR.out) ?_
          clear hS
          intro hS
          clear hK K
          refine wpAnyH_ready (rs := [15]) (by kernel_rfl) (List.cons_ne_nil _ _) ?_
          refine AllReadyH.cons (o := { dst := some 74, op := Op.buildSlice 23 1 #[(0, Operand.tmp 73)], type := 23, pos := "ref.go:202", after := #[{ on := 14, ground := Ground.data }], guard := none }) rfl (fun K hK => ?_) AllReadyH.nil
          go_simp
          refine hK _ _ (HNX2.out _ _ _ _ HR.out) ?_
          clear hS
          intro hS
          clear hK K
          refine wpAnyH_ready (rs := [16]) (by kernel_rfl) (List.cons_ne_nil _ _) ?_
          refine AllReadyH.cons (o := { dst := some 75, op := Op.call { callee := Callee.builtin Builtin.append, args := #[Operand.tmp 59, Operand.tmp 74], argTypes := #[23, 23] }, type := 23, pos := "ref.go:202", after := #[{ on := 0, ground := Ground.data }, { on := 15, ground := Ground.data }, { on := 14, ground := Ground.chain }], guard := none }) rfl (fun K hK => ?_) AllReadyH.nil
          refine step_append_lies _ rfl (.tmp 59) (.tmp 74) 23 rfl (w1.heap.size + 2) 25 i0 (.agg #[.int .i64 0, .int .i64 0, .string ⟨#[]⟩, .slice none 0 0, .slice none 0 0]) 5 80 Tryd.underlying23 hi hz0 hz1 hz2 rfl (by decide) sv ts.length us (by simp [Act.eval]) (World.ownsRow.alloc HR.out.own _) ⟨w8.heap.size, 0, none⟩ 1 1 [.int .i64 rk, .int .i64 ri, .string rn, .slice rAL rnl rcl, .slice rAK rnk rck] (by simp [Act.eval]) rfl ?qn ?q1 (by decide) ?qm ?qb ?qs _ rfl ?_
          case qn => intro m u hu; rw [Addr.add_lit, Nat.zero_add, cell_of_row _ _ m _ _ _ (World.alloc_heap_new w8 (.cells #[.int .i64 rk, .int .i64 ri, .string rn, .slice rAL rnl rcl, .slice rAK rnk rck] 25))]; simpa using hu
          case q1 => intro u hu; simp at hu; rcases hu with rfl | rfl | rfl | rfl | rfl <;> rfl
          case qm => unfold maxLen; omega
          case qb => omega
          case qs => have := HR.out.kp.size; have := HR.out.br.lt; simp; omega
          intro g6 cap6 w9 hown hgrow hwhere hlt2
          have HR := Lib.hid (HR.out.grow (by omega) (by omega) HT8.out ((Below.refl _ _).alloc (Nat.le_refl _) _) hown hgrow hwhere).1
          clear hown hgrow hwhere hlt2 HT8
          refine hK _ _ (HNX.out _ _ _ _ _ _ HR.out) ?_
          clear hS
          intro hS
          clear hK K
          refine wpAnyH_take (i := 17) (oi := { dst := some 11, op := Op.assign (Operand.tmp 75), type := 23, pos := "ref.go:202", after := #[{ on := 16, ground := Ground.data }, { on := 16, ground := Ground.chain }, { on := 0, ground := Ground.phase }, { on := 1, ground := Ground.phase }, { on := 2, ground := Ground.phase }, { on := 3, ground := Ground.phase }, { on := 4, ground := Ground.phase }, { on := 5, ground := Ground.phase }, { on := 6, ground := Ground.phase }, { on := 7, ground := Ground.phase }, { on := 8, ground := Ground.phase }, { on := 9, ground := Ground.phase }, { on := 10, ground := Ground.phase }, { on := 11, ground := Ground.phase }, { on := 12, ground := Ground.phase }, { on := 13, ground := Ground.phase }, { on := 14, ground := Ground.phase }, { on := 15, ground := Ground.phase }, { on := 16, ground := Ground.phase }], guard := none }) (v := .slice (some ⟨g6, 0, none⟩) (ts.length + 1) cap6) rfl (by kernel_rfl) (by kernel_rfl) (by kernel_rfl) (fun _ _ _ h => h) (Or.inl ⟨by rfl, ?_⟩) hS ?_
          · intro w9 hSw
            obtain ⟨s0, s1, s2, s3, s4, s5, s6, s7, s8, s9, s10, s11⟩ := hSw
            go_simp
          simp only [Act.put, List.setIfInBounds_toArray, List.set_cons_zero, List.set_cons_succ]
          refine wpAnyH_done (by kernel_rfl) ?_ _
          have HLN := Lib.hid (show (ts ++ [(cpT (raR part) q (D + bb)).t]).length = j + 1 by rw [List.length_append, hlen.out]; rfl)
          have HJN : Hid (fa + (cpT (raR part) q (D + bb)).f + (cpL (raR part) (ks.drop (j + 1)) k D (j + 1)).f = (cpL (raR part) ks k D 0).f ∧ er (er ea (cpT (raR part) q (D + bb)).e) (cpL (raR part) (ks.drop (j + 1)) k D (j + 1)).e = (cpL (raR part) ks k D 0).e ∧ (ts ++ [(cpT (raR part) q (D + bb)).t]) ++ (cpL (raR part) (ks.drop (j + 1)) k D (j + 1)).ts = (cpL (raR part) ks k D 0).ts) := Lib.hid ⟨by rw [Nat.add_assoc, ← HDF.out]; exact HJ.out.1, by rw [er_assoc, ← HD1.out.1]; exact HJ.out.2.1, by rw [List.append_assoc, List.singleton_append, ← HD1.out.2]; exact HJ.out.2.2⟩
          have hrn := HR.out
          rw [er_assoc, Int.add_assoc, ← Int.natCast_add] at hrn
          have HRN := Lib.hid hrn
          clear hS hrn
          go_wp2_with fail
          go_roundw
          case rel => exact ⟨j + 1, _, _, _, _, _, rfl, hjl, by go_num, HLN, HLE.out, HJN, HRN⟩
          case measure => simp [intOf]; omega
        · have hji : decide ((j : Int) < (ks.length : Int)) = false := by rw [decide_eq_false_iff_not]; omega
          have hjj := HJ.out
          rw [List.drop_of_length_le (by omega), cpL] at hjj
          have HE0 := Lib.hid (show (cpL (raR part) ks k D 0).f = fa from hjj.1.symm)
          have HE1 := Lib.hid (show (cpL (raR part) ks k D 0).e = ea by rw [← hjj.2.1]; exact er_zero_right ea)
          have HE2 := Lib.hid (show (cpL (raR part) ks k D 0).ts = ts by rw [← hjj.2.2]; exact List.append_nil ts)
          have htl : ts.length ≤ ks.length := by have := hlen.out; omega
          obtain ⟨svA, svc, rfl⟩ : ∃ A c, sv = .slice A ts.length c := by
            rcases HRS.out.own.2 with ⟨rfl, h0⟩ | ⟨g, cap, cur, rfl, _⟩
            · exact ⟨none, 0, by rw [h0]⟩
            · exact ⟨_, _, rfl⟩
          have hN := HRS.out.node' (k' := k) (i' := i) (nm' := nm) (cl' := cl) (by have := HS1.out; omega) (by omega) HLS.out
          have hs1 := HS1.out
          have hbl : ∀ q, q ≠ w.heap.size → (wr.setCell ⟨w.heap.size, 4, none⟩ (.slice svA ts.length svc)).heap[q]? = wr.heap[q]? := fun q hq => Below.heap_setCell _ _ _ _ hq
          have hZ := (HTB.out _ _ _ _ _ _ HRS.out).2.2.1
          have hZ' : B5 (w.heap.size + 1 + 1) (.int .i64 0) (.int .i64 0) (.string ⟨#[]⟩) (.slice none 0 0) (.slice none 0 0) (wr.setCell ⟨w.heap.size, 4, none⟩ (.slice svA ts.length svc)) := hZ.blk (hbl _ (by omega))
          have hT := (HTB.out _ _ _ _ _ _ HRS.out).1
          have hT' : B5 w.heap.size (.int .i64 k) (.int .i64 i) (.string nm) (.slice AL ls.length cl) (.slice svA ts.length svc) (wr.setCell ⟨w.heap.size, 4, none⟩ (.slice svA ts.length svc)) := hT.put4 _
          have hK' : Kp (MP pw) w (wr.setCell ⟨w.heap.size, 4, none⟩ (.slice svA ts.length svc)) := (HK1.out _ _ _ _ _ _ HRS.out).ownP (Nat.le_refl _) _ _
          have hW' : WkS pw (er e0 ea) (n + (fa : Int)) (wr.setCell ⟨w.heap.size, 4, none⟩ (.slice svA ts.length svc)) := HRS.out.wk.kp (hbl _ (by omega))
          have hN' : TmP (wr.setCell ⟨w.heap.size, 4, none⟩ (.slice svA ts.length svc)) (fun q => ((q < B ∨ w.heap.size ≤ q) ∧ q ≠ pw) ∧ q ≠ w.heap.size + 1 + 1) (.mk k i nm ls ts) (.agg #[.int .i64 k, .int .i64 i, .string nm, .slice AL ls.length cl, .slice svA ts.length svc]) := TmP.mono (fun q h _ => by omega) _ _ (TmP.keep (S := fun q => (q < B ∨ w1.heap.size + 2 ≤ q) ∧ q ≠ pw) (fun p hp => World.cell?_of_block (w := wr) (hbl _ (by omega))) _ _ hN)
          have HT' := Lib.hid hT'
          have HF := Lib.hid (And.intro hK' (And.intro hW' hZ'))
          have HN' := Lib.hid hN'
          clear hN hbl hZ hZ' hT hT' hK' hW' hN' hs1 hjj HRS hlen
          go_upto_region 16 with fail
          generalize wr.setCell ⟨w.heap.size, 4, none⟩ (.slice svA ts.length svc) = w15 at HT' HF HN' ⊢
          clear x0 x1 x2 x3 x4 f0 f1 f2 f3 f4
          obtain ⟨x0, x1, x2, x3, x4, _, _, _, _, _⟩ := HT'.out
          have hd := done_at (b := w.heap.size + 1 + 1) (B := B) (by omega) (by omega) HF.out.1 HF.out.2.1 HF.out.2.2 (t := .mk k i nm ls ts) HN'.out
          unfold set5 at hd
          simp only [Nat.zero_add] at hd
          have HD := Lib.hid hd
          clear hd
          have hlt15 := HF.out.2.2.lt
          obtain ⟨z0, z1, z2, z3, z4, g0, g1, g2, g3, g4⟩ := HF.out.2.2
          go_wp2_with fail
          generalize (((((w15.setCell ⟨w.heap.size + 1 + 1, 0, none⟩ (.int .i64 k)).setCell ⟨w.heap.size + 1 + 1, 1, none⟩ (.int .i64 i)).setCell ⟨w.heap.size + 1 + 1, 2, none⟩ (.string nm)).setCell ⟨w.heap.size + 1 + 1, 3, none⟩ (.slice AL ls.length cl)).setCell ⟨w.heap.size + 1 + 1, 4, none⟩ (.slice svA ts.length svc)) = w3 at HD ⊢
          clear z0 z1 z2 z3 z4 g0 g1 g2 g3 g4
          obtain ⟨z0, z1, z2, z3, z4, g0, g1, g2, g3, g4⟩ := HD.out.1
          exact bodyPost_ret (v := .agg #[.int .i64 k, .int .i64 i, .string nm, .slice AL ls.length cl, .slice svA ts.length svc]) (by simp [results, Tryd.results45, go_sem, z0, z1, z2, z3, z4]) rfl (by rw [HX.out]; refine ⟨HD.out.2.1, ?_, _, _, _, _, _, _, _, _, _, rfl, ?_⟩; (show WkS pw (er e0 (cpL (raR part) ks k D 0).e) (n + ((cpL (raR part) ks k D 0).f : Int)) w3; rw [HE1.out, HE0.out]; exact HD.out.2.2.1); (show TmP w3 _ (.mk k i nm ls (cpL (raR part) ks k D 0).ts) _; rw [HE2.out]; exact HD.out.2.2.2))
end Go.Proofs.YtobaeeobfcffoaaDoor
