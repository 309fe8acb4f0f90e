/- The reference's subst. -/
import Derived.Test.YtobaeeobfcffoaaDoorSup
import Derived.Test.YtobaeeobfcffoaaDoorRsh
import Derived.Deep.RegionHeld3
namespace Go.Proofs.YtobaeeobfcffoaaDoor
open Go.RowKit

/-- Values in a slice. -/
def VsP (w : World) (S : Nat → Prop) (AV : Option Addr) (vals : List Tm) : Prop := vals.length * 80 ≤ 140737488355328 ∧ (0 < vals.length → ∃ b o, AV = some ⟨b, o, none⟩ ∧ S b ∧ KsP w S b o vals)
theorem VsP.kp {w w' : World} {pw B : Nat} {AV : Option Addr} {vals : List Tm} (h : VsP w (fun q => q < B ∧ q ≠ pw) AV vals) (hk : Kp (MP pw) w w') (hB : B ≤ w.heap.size) : VsP w' (fun q => q < B ∧ q ≠ pw) AV vals :=
  ⟨h.1, fun hn => by
    obtain ⟨b, o, e, hb, hk'⟩ := h.2 hn
    exact ⟨b, o, e, hb, KsP.keep (fun p hp => hk.cell (by omega) hp.2) b hb vals o hk'⟩⟩
theorem WkS.setN {pw : Nat} {e n : Int} {w : World} (h : WkS pw e n w) (x : Int) : WkS pw e x (w.setCell ⟨pw, 1, none⟩ (.int .i64 x)) := by
  have h0 := h.f0
  have h1 := h.f1
  exact ⟨set_other h.c0 (by decide), set_same h.c1, by go_simp, by go_simp⟩
theorem wrap_in (x : Int) (h : -1000000000000 ≤ x ∧ x ≤ 1000000000000) : IntKind.i64.wrap x = x := by
  rw [IntKind.wrap_i64]
  omega
/-- What the reference's subst leaves. -/
def RuP (pw B : Nat) (e0 : Int) (x : Su) (w : World) (e : Ending) (w' : World) : Prop :=
  Kp (MP pw) w w' ∧ WkS pw (er e0 x.e) x.n w' ∧ ∃ rk ri rn rAL rnl rcl rAK rnk rck, e = .returned (.agg #[.int .i64 rk, .int .i64 ri, .string rn, .slice rAL rnl rcl, .slice rAK rnk rck]) ∧ TmP w' (fun q => (q < B ∨ w.heap.size ≤ q) ∧ q ≠ pw) x.t (.agg #[.int .i64 rk, .int .i64 ri, .string rn, .slice rAL rnl rcl, .slice rAK rnk rck])
theorem drop_su (vals : List Tm) {ks : List Tm} {k : Int} {D j n : Nat} (hj : j < ks.length) : suL vals (ks.drop j) k D j n = ⟨(suL vals (ks.drop (j + 1)) k D (j + 1) (suT vals ks[j] (D + bbN k j) n).n).n, er (suT vals ks[j] (D + bbN k j) n).e (suL vals (ks.drop (j + 1)) k D (j + 1) (suT vals ks[j] (D + bbN k j) n).n).e, (suT vals ks[j] (D + bbN k j) n).t :: (suL vals (ks.drop (j + 1)) k D (j + 1) (suT vals ks[j] (D + bbN k j) n).n).ts⟩ := by
  rw [← List.getElem_cons_drop hj, suL]
set_option maxRecDepth 100000 in
set_option maxHeartbeats 16000000 in
theorem rsubst_any (vals : List Tm) (AV : Option Addr) (cv : Nat) (hvals : ∀ x ∈ vals, szT x ≤ 1000000 ∧ AllT Qv x 0) (hvl : vals.length ≤ 1000000) : ∀ (N : Nat) (t : Tm) (v : Value) (D B pw : Nat) (e0 : Int) (n : Nat) (w : World), szT t ≤ N → D + N ≤ 900000 → n ≤ 1500000 → AllT Qv t D → TmP w (fun q => q < B ∧ q ≠ pw) t v → VsP w (fun q => q < B ∧ q ≠ pw) AV vals → B ≤ w.heap.size → WkS pw e0 n w →
    Calls Tryd.prog 38 #[.pointer (some ⟨pw, 0, none⟩), v, .slice AV vals.length cv, .int .i64 (D : Int)] w (RuP pw B e0 (suT vals t D n) w) := by
  intro N
  induction N with
  | zero => intro t v D B pw e0 n w h; have := szT_pos t; omega
  | succ N ih =>
  intro t v D B pw e0 n w hsz hdN hnn hq hv hvs hB hw
  have hv0 := hv
  cases t with
  | mk k i nm ls ks =>
  rw [TmP] at hv
  obtain ⟨AL, cl, AK, ck, rfl, hls, hz, hks⟩ := hv
  have hpw := hw.lt
  have hR0 := RS.start (B := B) k i nm AL ls.length cl AK ks.length ck hw
  have hQ := hq.here
  have HQ := Lib.hid hq
  have HV := Lib.hid hv0
  have HVS := Lib.hid hvs
  have HLS := Lib.hid hls
  have HKS := Lib.hid hks
  have IH := Lib.hid ih
  have HSZ := Lib.hid hsz
  have HW0 := Lib.hid hw
  have HVALS := Lib.hid hvals
  have HT := Lib.hid (show ∀ (e1 n1 : Int) (ts : List Tm) (us : List Value) (sv : Value) (W : World), RS w pw B k i nm AL ls.length cl AK ks.length ck e1 n1 ts us sv W → TmP W (fun q => (q < B ∨ w.heap.size + 2 ≤ q) ∧ q ≠ pw) (.mk k i nm ls ks) (.agg #[.int .i64 k, .int .i64 i, .string nm, .slice AL ls.length cl, .slice AK ks.length ck]) from fun e1 n1 ts us sv W h => TmP.mono (fun q h _ => ⟨.inl h.1, h.2⟩) _ _ (tmP_kp HV.out h.kp (fun q h => h.2)))
  have HR0 := Lib.hid hR0
  clear ih hq hv0 hls hks hw hsz hvs hvals hR0
  go_enter Tryd.func38, Tryd.ntmps38
  go_upto_region 1 with fail
  generalize hW2 : (w.alloc (.cells #[.int .i64 k, .int .i64 i, .string nm, .slice AL ls.length cl, .slice AK ks.length ck] 25)).alloc (.cells #[.int .i64 0, .int .i64 0, .string ⟨#[]⟩, .slice none 0 0, .slice none 0 0] 25) = W2 at HR0 ⊢
  clear hW2
  obtain ⟨y0, y1, y2, y3, y4, _, _, _, _, _⟩ := HR0.out.bx
  obtain ⟨q0, q1, q2, q3⟩ := HR0.out.wk
  have hlt0 := HR0.out.br.lt
  by_cases hn : 4096 < n
  · have dn : decide ((4096 : Int) < (n : Int)) = true := decide_eq_true (by omega)
    have HX := Lib.hid (show suT vals (.mk k i nm ls ks) D n = ⟨n, 0, .mk k i nm ls ks⟩ from suT_big hn)
    have hd := HR0.out.done hpw hB (HT.out _ _ _ _ _ _ HR0.out)
    unfold set5 at hd
    simp only [Nat.zero_add] at hd
    have HD := Lib.hid hd
    clear hd HT
    obtain ⟨z0, z1, z2, z3, z4, g0, g1, g2, g3, g4⟩ := HR0.out.br
    go_wp2_with fail
    generalize (((((W2.setCell ⟨w.heap.size + 1, 0, none⟩ (.int .i64 k)).setCell ⟨w.heap.size + 1, 1, none⟩ (.int .i64 i)).setCell ⟨w.heap.size + 1, 2, none⟩ (.string nm)).setCell ⟨w.heap.size + 1, 3, none⟩ (.slice AL ls.length cl)).setCell ⟨w.heap.size + 1, 4, none⟩ (.slice AK ks.length ck)) = w3 at HD ⊢
    clear z0 z1 z2 z3 z4 g0 g1 g2 g3 g4
    obtain ⟨z0, z1, z2, z3, z4, g0, g1, g2, g3, g4⟩ := HD.out.1
    exact bodyPost_ret (v := .agg #[.int .i64 k, .int .i64 i, .string nm, .slice AL ls.length cl, .slice AK ks.length ck]) (by simp [results, Tryd.results38, go_sem, z0, z1, z2, z3, z4]) rfl (by rw [HX.out]; exact ⟨HD.out.2.1, by rw [er_zero_right]; exact HD.out.2.2.1, _, _, _, _, _, _, _, _, _, rfl, HD.out.2.2.2⟩)
  have dn : decide ((4096 : Int) < (n : Int)) = false := decide_eq_false (by omega)
  by_cases hk : k = 0
  · have hi := hQ hk
    subst hk
    by_cases h1 : (D : Int) ≤ i
    · have d1 : decide ((D : Int) ≤ i) = true := decide_eq_true h1
      obtain ⟨m, hm⟩ : ∃ m : Nat, i - (D : Int) = (m : Int) := ⟨(i - D).toNat, by omega⟩
      by_cases h2 : m < vals.length
      · have d2 : decide ((m : Int) < (vals.length : Int)) = true := decide_eq_true (by omega)
        have hx0 : vals[m]? = some vals[m] := List.getElem?_eq_getElem h2
        have HX := Lib.hid (show suT vals (.mk 0 i nm ls ks) D n = ⟨n + szT vals[m], (cpT (rfR D 0) vals[m] 0).e, (cpT (rfR D 0) vals[m] 0).t⟩ by rw [suT, if_neg hn, if_pos rfl, if_pos h1, hm, show ((m : Int)).toNat = m by omega, hx0])
        obtain ⟨vb, vo, rfl, hvb, hvk⟩ := HVS.out.2 (by omega)
        obtain ⟨xk, xi, xn, xAL, xnl, xcl, xAK, xnk, xck, u0, u1, u2, u3, u4, hxt⟩ : ∃ xk xi xn xAL xnl xcl xAK xnk xck, w.cell? ⟨vb, vo + m * 5, none⟩ = some (.int .i64 xk) ∧ w.cell? ⟨vb, vo + m * 5 + 1, none⟩ = some (.int .i64 xi) ∧ w.cell? ⟨vb, vo + m * 5 + 2, none⟩ = some (.string xn) ∧ w.cell? ⟨vb, vo + m * 5 + 3, none⟩ = some (.slice xAL xnl xcl) ∧ w.cell? ⟨vb, vo + m * 5 + 4, none⟩ = some (.slice xAK xnk xck) ∧ TmP w (fun q => q < B ∧ q ≠ pw) vals[m] (.agg #[.int .i64 xk, .int .i64 xi, .string xn, .slice xAL xnl xcl, .slice xAK xnk xck]) := by
          obtain ⟨c0, c1, c2, c3, c4, u0, u1, u2, u3, u4, hqt⟩ := hvk.at_ hx0
          obtain ⟨qk, qi, qn, qAL, qnl, qcl, qAK, qnk, qck, hqe, _⟩ := hqt.open_
          simp only [Value.agg.injEq, Array.mk.injEq, List.cons.injEq, and_true] at hqe
          obtain ⟨rfl, rfl, rfl, rfl, rfl⟩ := hqe
          exact ⟨_, _, _, _, _, _, _, _, _, u0, u1, u2, u3, u4, hqt⟩
        have hxs := HVALS.out vals[m] (List.getElem_mem h2)
        have HXS := Lib.hid hxs.2
        have hxz := hxs.1
        have HXT := Lib.hid hxt
        generalize vals[m] = x at *
        have hvbw : vb < w.heap.size := by omega
        have a0 := (HR0.out.kp.cell (p := ⟨vb, vo + m * 5, none⟩) hvbw hvb.2).trans u0
        have a1 := (HR0.out.kp.cell (p := ⟨vb, vo + m * 5 + 1, none⟩) hvbw hvb.2).trans u1
        have a2 := (HR0.out.kp.cell (p := ⟨vb, vo + m * 5 + 2, none⟩) hvbw hvb.2).trans u2
        have a3 := (HR0.out.kp.cell (p := ⟨vb, vo + m * 5 + 3, none⟩) hvbw hvb.2).trans u3
        have a4 := (HR0.out.kp.cell (p := ⟨vb, vo + m * 5 + 4, none⟩) hvbw hvb.2).trans u4
        clear hxs hxt hvk hx0 u0 u1 u2 u3 u4
        go_upto_region 5 with fail
        obtain ⟨W3, hW3⟩ : ∃ z, z = W2.alloc (.cells #[.int .i64 xk, .int .i64 xi, .string xn, .slice xAL xnl xcl, .slice xAK xnk xck] 25) := ⟨_, rfl⟩
        rw [← hW3]
        have hR3 : RS w pw B 0 i nm AL ls.length cl AK ks.length ck e0 n [] [] (.slice none 0 0) W3 := by rw [hW3]; exact HR0.out.next hpw ((Kp.refl _ _).newP (alB _ _)) (HR0.out.wk.next (alB _ _))
        have hB9 : B5 W2.heap.size (.int .i64 xk) (.int .i64 xi) (.string xn) (.slice xAL xnl xcl) (.slice xAK xnk xck) W3 := by rw [hW3]; exact B5.new _ _ _ _ _ _
        have hdw : Below W3.heap.size W3 W3.drew := (Below.refl _ _).drew
        have hR4 := hR3.next hpw ((Kp.refl _ _).newP hdw) (hR3.wk.next hdw)
        have hB4 := hB9.next hdw
        have hx4 : TmP W3.drew (fun q => q < B ∧ q ≠ pw) x (.agg #[.int .i64 xk, .int .i64 xi, .string xn, .slice xAL xnl xcl, .slice xAK xnk xck]) := tmP_kp HXT.out hR4.kp (fun q h => h.2)
        have HTX := Lib.hid (TmP.tmV' x _ (TmP.mono (S' := (· < B)) (fun q h _ => h.1) _ _ hx4))
        have hB4s : B ≤ W3.drew.heap.size := by have := hR4.kp.size; omega
        have hpne : W2.heap.size ≠ pw := by omega
        have wr1 : IntKind.i64.wrap ((n : Int) + (szT x : Int)) = (n : Int) + (szT x : Int) := wrap_in _ (by omega)
        have HA7 := Lib.hid (show ∀ w7, Below W3.drew.heap.size W3.drew w7 → w7.cell? ⟨pw, 1, none⟩ = some (.int .i64 n) ∧ w7.frozen? ⟨pw, 1, none⟩ = false ∧ Hid (w7.cell? ⟨W2.heap.size, 0, none⟩ = some (.int .i64 xk) ∧ w7.cell? ⟨W2.heap.size, 1, none⟩ = some (.int .i64 xi) ∧ w7.cell? ⟨W2.heap.size, 2, none⟩ = some (.string xn) ∧ w7.cell? ⟨W2.heap.size, 3, none⟩ = some (.slice xAL xnl xcl) ∧ w7.cell? ⟨W2.heap.size, 4, none⟩ = some (.slice xAK xnk xck)) ∧ Hid ((w7.setCell ⟨pw, 1, none⟩ (.int .i64 ((n : Int) + (szT x : Int)))).cell? ⟨W2.heap.size, 0, none⟩ = some (.int .i64 xk) ∧ (w7.setCell ⟨pw, 1, none⟩ (.int .i64 ((n : Int) + (szT x : Int)))).cell? ⟨W2.heap.size, 1, none⟩ = some (.int .i64 xi) ∧ (w7.setCell ⟨pw, 1, none⟩ (.int .i64 ((n : Int) + (szT x : Int)))).cell? ⟨W2.heap.size, 2, none⟩ = some (.string xn) ∧ (w7.setCell ⟨pw, 1, none⟩ (.int .i64 ((n : Int) + (szT x : Int)))).cell? ⟨W2.heap.size, 3, none⟩ = some (.slice xAL xnl xcl) ∧ (w7.setCell ⟨pw, 1, none⟩ (.int .i64 ((n : Int) + (szT x : Int)))).cell? ⟨W2.heap.size, 4, none⟩ = some (.slice xAK xnk xck)) ∧ Hid (RS w pw B 0 i nm AL ls.length cl AK ks.length ck e0 ((n : Int) + (szT x : Int)) [] [] (.slice none 0 0) (w7.setCell ⟨pw, 1, none⟩ (.int .i64 ((n : Int) + (szT x : Int)))) ∧ B5 W2.heap.size (.int .i64 xk) (.int .i64 xi) (.string xn) (.slice xAL xnl xcl) (.slice xAK xnk xck) (w7.setCell ⟨pw, 1, none⟩ (.int .i64 ((n : Int) + (szT x : Int)))) ∧ TmP (w7.setCell ⟨pw, 1, none⟩ (.int .i64 ((n : Int) + (szT x : Int)))) (fun q => q < B ∧ q ≠ pw) x (.agg #[.int .i64 xk, .int .i64 xi, .string xn, .slice xAL xnl xcl, .slice xAK xnk xck])) from by
          intro w7 hb
          have hR7 := hR4.next hpw ((Kp.refl _ _).newP hb) (hR4.wk.next hb)
          have hB7 := hB4.next hb
          have hR8 := hR7.next hpw ((Kp.refl _ _).setP 1 (.int .i64 ((n : Int) + (szT x : Int)))) (hR7.wk.setN ((n : Int) + (szT x : Int)))
          have hB8 := hB7.kp ((Kp.refl (MP pw) w7).setP 1 (.int .i64 ((n : Int) + (szT x : Int)))) hpne
          exact ⟨hR7.wk.c1, hR7.wk.f1, Lib.hid ⟨hB7.x0, hB7.x1, hB7.x2, hB7.x3, hB7.x4⟩, Lib.hid ⟨hB8.x0, hB8.x1, hB8.x2, hB8.x3, hB8.x4⟩, Lib.hid ⟨hR8, hB8, tmP_kp HXT.out hR8.kp (fun q h => h.2)⟩⟩)
        have HSD := Lib.hid (show W3.drew.cell? ⟨W2.heap.size, 0, none⟩ = some (.int .i64 xk) ∧ W3.drew.cell? ⟨W2.heap.size, 1, none⟩ = some (.int .i64 xi) ∧ W3.drew.cell? ⟨W2.heap.size, 2, none⟩ = some (.string xn) ∧ W3.drew.cell? ⟨W2.heap.size, 3, none⟩ = some (.slice xAL xnl xcl) ∧ W3.drew.cell? ⟨W2.heap.size, 4, none⟩ = some (.slice xAK xnk xck) from ⟨hB4.x0, hB4.x1, hB4.x2, hB4.x3, hB4.x4⟩)
        clear q0 q1 q2 q3 y0 y1 y2 y3 y4 a0 a1 a2 a3 a4
        have q1 := hR4.wk.c1
        clear hW3 hR3 hB9 hx4 hdw hR4 hB4 HR0 HT
        refine wp_region_held_drew (S := fun w' => w'.cell? ⟨W2.heap.size, 0, none⟩ = some (.int .i64 xk) ∧ w'.cell? ⟨W2.heap.size, 1, none⟩ = some (.int .i64 xi) ∧ w'.cell? ⟨W2.heap.size, 2, none⟩ = some (.string xn) ∧ w'.cell? ⟨W2.heap.size, 3, none⟩ = some (.slice xAL xnl xcl) ∧ w'.cell? ⟨W2.heap.size, 4, none⟩ = some (.slice xAK xnk xck)) (by kernel_rfl) (HSD.out) ?_
        intro hS
        refine wpAnyH_take (i := 0) (oi := { dst := some 43, op := Op.move (Operand.tmp 0), type := 61, pos := "ref.go:74", after := #[], guard := none }) (v := .pointer (some ⟨pw, 0, none⟩)) rfl (by kernel_rfl) (by kernel_rfl) (by kernel_rfl) (fun _ _ _ h => h) (Or.inl ⟨by rfl, ?_⟩) hS ?_
        · intro w9 hSw
          obtain ⟨s0, s1, s2, s3, s4⟩ := hSw
          go_simp
        simp only [Act.put, List.setIfInBounds_toArray, List.set_cons_zero, List.set_cons_succ]
        refine wpAnyH_take (i := 1) (oi := { dst := some 44, op := Op.nilCheck (Operand.tmp 43), type := 0, pos := "ref.go:74", after := #[{ on := 0, ground := Ground.data }], guard := none }) (v := .pointer (some ⟨pw, 0, none⟩)) rfl (by kernel_rfl) (by kernel_rfl) (by kernel_rfl) (fun _ _ _ h => h) (Or.inl ⟨by rfl, ?_⟩) hS ?_
        · intro w9 hSw
          obtain ⟨s0, s1, s2, s3, s4⟩ := hSw
          go_simp
        simp only [Act.put, List.setIfInBounds_toArray, List.set_cons_zero, List.set_cons_succ]
        refine wpAnyH_take (i := 2) (oi := { dst := some 45, op := Op.fieldAddr 63 (Operand.tmp 44) 1, type := 0, pos := "ref.go:74", after := #[{ on := 1, ground := Ground.data }], guard := none }) (v := .pointer (some ⟨pw, 1, none⟩)) rfl (by kernel_rfl) (by kernel_rfl) (by kernel_rfl) (fun _ _ _ h => h) (Or.inl ⟨by rfl, ?_⟩) hS ?_
        · intro w9 hSw
          obtain ⟨s0, s1, s2, s3, s4⟩ := hSw
          go_simp
        simp only [Act.put, List.setIfInBounds_toArray, List.set_cons_zero, List.set_cons_succ]
        refine wpAnyH_take (i := 4) (oi := { dst := some 47, op := Op.load 25 (Operand.tmp 9), type := 25, pos := "ref.go:74", after := #[], guard := none }) (v := .agg #[.int .i64 xk, .int .i64 xi, .string xn, .slice xAL xnl xcl, .slice xAK xnk xck]) rfl (by kernel_rfl) (by kernel_rfl) (by kernel_rfl) (fun _ _ _ h => h) (Or.inl ⟨by rfl, ?_⟩) hS ?_
        · intro w9 hSw
          obtain ⟨s0, s1, s2, s3, s4⟩ := hSw
          go_simp
        simp only [Act.put, List.setIfInBounds_toArray, List.set_cons_zero, List.set_cons_succ]
        refine wpAnyH_ready (rs := [3, 5]) (by kernel_rfl) (List.cons_ne_nil _ _) ?_
        refine AllReadyH.cons (o := { dst := some 46, op := Op.load 3 (Operand.tmp 45), type := 3, pos := "ref.go:74", after := #[{ on := 2, ground := Ground.data }], guard := none }) rfl (fun K hK => ?_) ?_
        · go_simp
          refine hK _ _ (hS) ?_
          clear hS
          intro hS
          clear hK K
          refine wpAnyH_ready (rs := [5]) (by kernel_rfl) (List.cons_ne_nil _ _) ?_
          refine AllReadyH.cons (o := { dst := some 48, op := Op.call { callee := Callee.value (Operand.func 54), args := #[Operand.tmp 47], argTypes := #[25] }, type := 3, pos := "ref.go:74", after := #[{ on := 4, ground := Ground.data }], guard := none }) rfl (fun K hK => ?_) AllReadyH.nil
          go_simp
          go_at_call 54
          refine (rsize_any (szT x) x _ B _ (Nat.le_refl _) (by omega) HTX.out hB4s).mono ?_
          rintro e w7 ⟨rfl, hb7⟩
          obtain ⟨c7, g7, HS7, HS8, HR8⟩ := HA7.out w7 hb7
          clear hb7
          try go_simp
          refine hK _ _ (HS7.out) ?_
          clear hS
          intro hS
          clear hK K
          refine wpAnyH_take (i := 6) (oi := { dst := some 49, op := Op.binOp BinOp.add 3 (Operand.tmp 46) (Operand.tmp 48) 3, type := 3, pos := "ref.go:74", after := #[{ on := 3, ground := Ground.data }, { on := 5, ground := Ground.data }], guard := none }) (v := .int .i64 ((n : Int) + (szT x : Int))) rfl (by kernel_rfl) (by kernel_rfl) (by kernel_rfl) (fun _ _ _ h => h) (Or.inl ⟨by rfl, ?_⟩) hS ?_
          · intro w9 hSw
            obtain ⟨s0, s1, s2, s3, s4⟩ := hSw
            go_simp
          simp only [Act.put, List.setIfInBounds_toArray, List.set_cons_zero, List.set_cons_succ]
          refine wpAnyH_take (i := 7) (oi := { dst := some 50, op := Op.nilCheck (Operand.tmp 43), type := 0, pos := "ref.go:74", after := #[{ on := 0, ground := Ground.data }, { on := 0, ground := Ground.phase }, { on := 1, ground := Ground.phase }, { on := 2, ground := Ground.phase }, { on := 3, ground := Ground.phase }, { on := 4, ground := Ground.phase }, { on := 5, ground := Ground.phase }, { on := 6, ground := Ground.phase }], guard := none }) (v := .pointer (some ⟨pw, 0, none⟩)) rfl (by kernel_rfl) (by kernel_rfl) (by kernel_rfl) (fun _ _ _ h => h) (Or.inl ⟨by rfl, ?_⟩) hS ?_
          · intro w9 hSw
            obtain ⟨s0, s1, s2, s3, s4⟩ := hSw
            go_simp
          simp only [Act.put, List.setIfInBounds_toArray, List.set_cons_zero, List.set_cons_succ]
          refine wpAnyH_take (i := 8) (oi := { dst := some 51, op := Op.fieldAddr 63 (Operand.tmp 50) 1, type := 0, pos := "ref.go:74", after := #[{ on := 7, ground := Ground.data }, { on := 0, ground := Ground.phase }, { on := 1, ground := Ground.phase }, { on := 2, ground := Ground.phase }, { on := 3, ground := Ground.phase }, { on := 4, ground := Ground.phase }, { on := 5, ground := Ground.phase }, { on := 6, ground := Ground.phase }], guard := none }) (v := .pointer (some ⟨pw, 1, none⟩)) rfl (by kernel_rfl) (by kernel_rfl) (by kernel_rfl) (fun _ _ _ h => h) (Or.inl ⟨by rfl, ?_⟩) hS ?_
          · intro w9 hSw
            obtain ⟨s0, s1, s2, s3, s4⟩ := hSw
            go_simp
          simp only [Act.put, List.setIfInBounds_toArray, List.set_cons_zero, List.set_cons_succ]
          refine wpAnyH_ready (rs := [9]) (by kernel_rfl) (List.cons_ne_nil _ _) ?_
          refine AllReadyH.cons (o := { dst := none, op := Op.store 3 (Operand.tmp 51) (Operand.tmp 49), type := 0, pos := "ref.go:74", after := #[{ on := 8, ground := Ground.data }, { on := 6, ground := Ground.data }, { on := 5, ground := Ground.chain }, { on := 0, ground := Ground.phase }, { on := 1, ground := Ground.phase }, { on := 2, ground := Ground.phase }, { on := 3, ground := Ground.phase }, { on := 4, ground := Ground.phase }, { on := 5, ground := Ground.phase }, { on := 6, ground := Ground.phase }], guard := none }) rfl (fun K hK => ?_) AllReadyH.nil
          go_simp
          refine hK _ _ (HS8.out) ?_
          clear hS
          intro hS
          clear hK K
          refine wpAnyH_done (by kernel_rfl) ?_ _
          generalize (w7.setCell ⟨pw, 1, none⟩ (.int .i64 ((n : Int) + (szT x : Int)))) = w8 at HR8 ⊢
          clear HS7 HS8 c7 g7 q1 HSD HA7 HTX hS
          obtain ⟨b0, b1, b2, b3, b4, _, _, _, _, _⟩ := HR8.out.2.1
          go_wp2_with fail
          refine (show Calls Tryd.prog 31 _ _ _ from rshift_any (D : Int) 0 (by omega) (by omega) (szT x) x _ 0 B pw e0 ((n : Int) + (szT x : Int)) w8 (Nat.le_refl _) (by omega) HXS.out HR8.out.2.2 (by have := HR8.out.1.kp.size; omega) HR8.out.1.wk).mono ?_
          rintro e w9 ⟨hk9, hw9, rk, ri, rn, rAL, rnl, rcl, rAK, rnk, rck, rfl, ht9⟩
          have hR9 := HR8.out.1.next hpw hk9 hw9
          have hd := hR9.done hpw hB (TmP.mono (fun q h _ => ⟨h.1.imp id (fun h => by have := HR8.out.1.br.lt; omega), h.2⟩) _ _ ht9)
          unfold set5 at hd
          simp only [Nat.zero_add] at hd
          have HD := Lib.hid hd
          have hlt9 := hR9.br.lt
          clear hd hk9 hw9 ht9 b0 b1 b2 b3 b4
          obtain ⟨z0, z1, z2, z3, z4, g0, g1, g2, g3, g4⟩ := hR9.br
          clear hR9
          go_wp2_with fail
          generalize (((((w9.setCell ⟨w.heap.size + 1, 0, none⟩ (.int .i64 rk)).setCell ⟨w.heap.size + 1, 1, none⟩ (.int .i64 ri)).setCell ⟨w.heap.size + 1, 2, none⟩ (.string rn)).setCell ⟨w.heap.size + 1, 3, none⟩ (.slice rAL rnl rcl)).setCell ⟨w.heap.size + 1, 4, none⟩ (.slice rAK rnk rck)) = w3 at HD ⊢
          clear z0 z1 z2 z3 z4 g0 g1 g2 g3 g4
          obtain ⟨z0, z1, z2, z3, z4, g0, g1, g2, g3, g4⟩ := HD.out.1
          exact bodyPost_ret (v := .agg #[.int .i64 rk, .int .i64 ri, .string rn, .slice rAL rnl rcl, .slice rAK rnk rck]) (by simp [results, Tryd.results38, go_sem, z0, z1, z2, z3, z4]) rfl (by rw [HX.out]; exact ⟨HD.out.2.1, by show WkS pw _ ((n + szT x : Nat) : Int) w3; rw [Int.natCast_add]; exact HD.out.2.2.1, _, _, _, _, _, _, _, _, _, rfl, HD.out.2.2.2⟩)
        refine AllReadyH.cons (o := { dst := some 48, op := Op.call { callee := Callee.value (Operand.func 54), args := #[Operand.tmp 47], argTypes := #[25] }, type := 3, pos := "ref.go:74", after := #[{ on := 4, ground := Ground.data }], guard := none }) rfl (fun K hK => ?_) AllReadyH.nil
        go_simp
        go_at_call 54
        refine (rsize_any (szT x) x _ B _ (Nat.le_refl _) (by omega) HTX.out hB4s).mono ?_
        rintro e w7 ⟨rfl, hb7⟩
        obtain ⟨c7, g7, HS7, HS8, HR8⟩ := HA7.out w7 hb7
        clear hb7
        try go_simp
        refine hK _ _ (HS7.out) ?_
        clear hS
        intro hS
        clear hK K
        refine wpAnyH_ready (rs := [3]) (by kernel_rfl) (List.cons_ne_nil _ _) ?_
        refine AllReadyH.cons (o := { dst := some 46, op := Op.load 3 (Operand.tmp 45), type := 3, pos := "ref.go:74", after := #[{ on := 2, ground := Ground.data }], guard := none }) rfl (fun K hK => ?_) AllReadyH.nil
        go_simp
        refine hK _ _ (hS) ?_
        clear hS
        intro hS
        clear hK K
        refine wpAnyH_take (i := 6) (oi := { dst := some 49, op := Op.binOp BinOp.add 3 (Operand.tmp 46) (Operand.tmp 48) 3, type := 3, pos := "ref.go:74", after := #[{ on := 3, ground := Ground.data }, { on := 5, ground := Ground.data }], guard := none }) (v := .int .i64 ((n : Int) + (szT x : Int))) rfl (by kernel_rfl) (by kernel_rfl) (by kernel_rfl) (fun _ _ _ h => h) (Or.inl ⟨by rfl, ?_⟩) hS ?_
        · intro w9 hSw
          obtain ⟨s0, s1, s2, s3, s4⟩ := hSw
          go_simp
        simp only [Act.put, List.setIfInBounds_toArray, List.set_cons_zero, List.set_cons_succ]
        refine wpAnyH_take (i := 7) (oi := { dst := some 50, op := Op.nilCheck (Operand.tmp 43), type := 0, pos := "ref.go:74", after := #[{ on := 0, ground := Ground.data }, { on := 0, ground := Ground.phase }, { on := 1, ground := Ground.phase }, { on := 2, ground := Ground.phase }, { on := 3, ground := Ground.phase }, { on := 4, ground := Ground.phase }, { on := 5, ground := Ground.phase }, { on := 6, ground := Ground.phase }], guard := none }) (v := .pointer (some ⟨pw, 0, none⟩)) rfl (by kernel_rfl) (by kernel_rfl) (by kernel_rfl) (fun _ _ _ h => h) (Or.inl ⟨by rfl, ?_⟩) hS ?_
        · intro w9 hSw
          obtain ⟨s0, s1, s2, s3, s4⟩ := hSw
          go_simp
        simp only [Act.put, List.setIfInBounds_toArray, List.set_cons_zero, List.set_cons_succ]
        refine wpAnyH_take (i := 8) (oi := { dst := some 51, op := Op.fieldAddr 63 (Operand.tmp 50) 1, type := 0, pos := "ref.go:74", after := #[{ on := 7, ground := Ground.data }, { on := 0, ground := Ground.phase }, { on := 1, ground := Ground.phase }, { on := 2, ground := Ground.phase }, { on := 3, ground := Ground.phase }, { on := 4, ground := Ground.phase }, { on := 5, ground := Ground.phase }, { on := 6, ground := Ground.phase }], guard := none }) (v := .pointer (some ⟨pw, 1, none⟩)) rfl (by kernel_rfl) (by kernel_rfl) (by kernel_rfl) (fun _ _ _ h => h) (Or.inl ⟨by rfl, ?_⟩) hS ?_
        · intro w9 hSw
          obtain ⟨s0, s1, s2, s3, s4⟩ := hSw
          go_simp
        simp only [Act.put, List.setIfInBounds_toArray, List.set_cons_zero, List.set_cons_succ]
        refine wpAnyH_ready (rs := [9]) (by kernel_rfl) (List.cons_ne_nil _ _) ?_
        refine AllReadyH.cons (o := { dst := none, op := Op.store 3 (Operand.tmp 51) (Operand.tmp 49), type := 0, pos := "ref.go:74", after := #[{ on := 8, ground := Ground.data }, { on := 6, ground := Ground.data }, { on := 5, ground := Ground.chain }, { on := 0, ground := Ground.phase }, { on := 1, ground := Ground.phase }, { on := 2, ground := Ground.phase }, { on := 3, ground := Ground.phase }, { on := 4, ground := Ground.phase }, { on := 5, ground := Ground.phase }, { on := 6, ground := Ground.phase }], guard := none }) rfl (fun K hK => ?_) AllReadyH.nil
        go_simp
        refine hK _ _ (HS8.out) ?_
        clear hS
        intro hS
        clear hK K
        refine wpAnyH_done (by kernel_rfl) ?_ _
        generalize (w7.setCell ⟨pw, 1, none⟩ (.int .i64 ((n : Int) + (szT x : Int)))) = w8 at HR8 ⊢
        clear HS7 HS8 c7 g7 q1 HSD HA7 HTX hS
        obtain ⟨b0, b1, b2, b3, b4, _, _, _, _, _⟩ := HR8.out.2.1
        go_wp2_with fail
        refine (show Calls Tryd.prog 31 _ _ _ from rshift_any (D : Int) 0 (by omega) (by omega) (szT x) x _ 0 B pw e0 ((n : Int) + (szT x : Int)) w8 (Nat.le_refl _) (by omega) HXS.out HR8.out.2.2 (by have := HR8.out.1.kp.size; omega) HR8.out.1.wk).mono ?_
        rintro e w9 ⟨hk9, hw9, rk, ri, rn, rAL, rnl, rcl, rAK, rnk, rck, rfl, ht9⟩
        have hR9 := HR8.out.1.next hpw hk9 hw9
        have hd := hR9.done hpw hB (TmP.mono (fun q h _ => ⟨h.1.imp id (fun h => by have := HR8.out.1.br.lt; omega), h.2⟩) _ _ ht9)
        unfold set5 at hd
        simp only [Nat.zero_add] at hd
        have HD := Lib.hid hd
        have hlt9 := hR9.br.lt
        clear hd hk9 hw9 ht9 b0 b1 b2 b3 b4
        obtain ⟨z0, z1, z2, z3, z4, g0, g1, g2, g3, g4⟩ := hR9.br
        clear hR9
        go_wp2_with fail
        generalize (((((w9.setCell ⟨w.heap.size + 1, 0, none⟩ (.int .i64 rk)).setCell ⟨w.heap.size + 1, 1, none⟩ (.int .i64 ri)).setCell ⟨w.heap.size + 1, 2, none⟩ (.string rn)).setCell ⟨w.heap.size + 1, 3, none⟩ (.slice rAL rnl rcl)).setCell ⟨w.heap.size + 1, 4, none⟩ (.slice rAK rnk rck)) = w3 at HD ⊢
        clear z0 z1 z2 z3 z4 g0 g1 g2 g3 g4
        obtain ⟨z0, z1, z2, z3, z4, g0, g1, g2, g3, g4⟩ := HD.out.1
        exact bodyPost_ret (v := .agg #[.int .i64 rk, .int .i64 ri, .string rn, .slice rAL rnl rcl, .slice rAK rnk rck]) (by simp [results, Tryd.results38, go_sem, z0, z1, z2, z3, z4]) rfl (by rw [HX.out]; exact ⟨HD.out.2.1, by show WkS pw _ ((n + szT x : Nat) : Int) w3; rw [Int.natCast_add]; exact HD.out.2.2.1, _, _, _, _, _, _, _, _, _, rfl, HD.out.2.2.2⟩)
      · have d2 : decide ((m : Int) < (vals.length : Int)) = false := decide_eq_false (by omega)
        have HX := Lib.hid (show suT vals (.mk 0 i nm ls ks) D n = ⟨n + 1, big (i - vals.length), vr (i - vals.length)⟩ by rw [suT, if_neg hn, if_pos rfl, if_pos h1, hm, show ((m : Int)).toNat = m by omega, List.getElem?_eq_none_iff.2 (by omega)])
        go_upto_region 8 with fail
        have hR1 := HR0.out.next hpw ((Kp.refl _ _).setP 1 (.int .i64 ((n : Int) + 1))) (HR0.out.wk.setN ((n : Int) + 1))
        generalize W2.setCell ⟨pw, 1, none⟩ (.int .i64 ((n : Int) + 1)) = W5 at hR1 ⊢
        have HR1 := Lib.hid hR1
        clear hR1 HR0 y0 y1 y2 y3 y4 q0 q1 q2 q3
        obtain ⟨y0, y1, y2, y3, y4, _, _, _, _, _⟩ := HR1.out.bx
        obtain ⟨q0, q1, q2, q3⟩ := HR1.out.wk
        go_wp2_with fail
        refine (rvar_any pw e0 ((n : Int) + 1) (i - vals.length) _ HR1.out.wk).mono ?_
        rintro e w6 ⟨rfl, hk6, hw6⟩
        have hR6 := HR1.out.next hpw hk6 hw6
        have hd := hR6.done hpw hB (t := vr (i - vals.length)) (tmP_vr' _ _ _ none 0 none 0)
        unfold set5 at hd
        simp only [Nat.zero_add] at hd
        have HD := Lib.hid hd
        have hlt6 := hR6.br.lt
        clear hd hk6 hw6 HT y0 y1 y2 y3 y4 q0 q1 q2 q3
        obtain ⟨z0, z1, z2, z3, z4, g0, g1, g2, g3, g4⟩ := hR6.br
        clear hR6
        go_wp2_with fail
        generalize (((((w6.setCell ⟨w.heap.size + 1, 0, none⟩ (.int .i64 0)).setCell ⟨w.heap.size + 1, 1, none⟩ (.int .i64 (i - (vals.length : Int)))).setCell ⟨w.heap.size + 1, 2, none⟩ (.string ⟨#[]⟩)).setCell ⟨w.heap.size + 1, 3, none⟩ (.slice none 0 0)).setCell ⟨w.heap.size + 1, 4, none⟩ (.slice none 0 0)) = w3 at HD ⊢
        clear z0 z1 z2 z3 z4 g0 g1 g2 g3 g4
        obtain ⟨z0, z1, z2, z3, z4, g0, g1, g2, g3, g4⟩ := HD.out.1
        exact bodyPost_ret (v := .agg #[.int .i64 0, .int .i64 (i - vals.length), .string ⟨#[]⟩, .slice none 0 0, .slice none 0 0]) (by simp [results, Tryd.results38, go_sem, z0, z1, z2, z3, z4]) rfl (by rw [HX.out]; exact ⟨HD.out.2.1, by show WkS pw _ ((n + 1 : Nat) : Int) w3; rw [Int.natCast_add]; exact HD.out.2.2.1, _, _, _, _, _, _, _, _, _, rfl, HD.out.2.2.2⟩)
    · have d1 : decide ((D : Int) ≤ i) = false := decide_eq_false h1
      have HX := Lib.hid (show suT vals (.mk 0 i nm ls ks) D n = ⟨n + 1, 0, .mk 0 i nm ls ks⟩ by rw [suT, if_neg hn, if_pos rfl, if_neg h1])
      go_upto_region 8 with fail
      have hR1 := HR0.out.next hpw ((Kp.refl _ _).setP 1 (.int .i64 ((n : Int) + 1))) (HR0.out.wk.setN ((n : Int) + 1))
      generalize W2.setCell ⟨pw, 1, none⟩ (.int .i64 ((n : Int) + 1)) = W5 at hR1 ⊢
      have HR1 := Lib.hid hR1
      clear hR1 HR0 y0 y1 y2 y3 y4 q0 q1 q2 q3
      obtain ⟨y0, y1, y2, y3, y4, _, _, _, _, _⟩ := HR1.out.bx
      obtain ⟨q0, q1, q2, q3⟩ := HR1.out.wk
      have hd := HR1.out.done hpw hB (HT.out _ _ _ _ _ _ HR1.out)
      unfold set5 at hd
      simp only [Nat.zero_add] at hd
      have HD := Lib.hid hd
      have hlt6 := HR1.out.br.lt
      clear hd HT
      obtain ⟨z0, z1, z2, z3, z4, g0, g1, g2, g3, g4⟩ := HR1.out.br
      go_wp2_with fail
      generalize (((((W5.setCell ⟨w.heap.size + 1, 0, none⟩ (.int .i64 0)).setCell ⟨w.heap.size + 1, 1, none⟩ (.int .i64 i)).setCell ⟨w.heap.size + 1, 2, none⟩ (.string nm)).setCell ⟨w.heap.size + 1, 3, none⟩ (.slice AL ls.length cl)).setCell ⟨w.heap.size + 1, 4, none⟩ (.slice AK ks.length ck)) = w3 at HD ⊢
      clear z0 z1 z2 z3 z4 g0 g1 g2 g3 g4
      obtain ⟨z0, z1, z2, z3, z4, g0, g1, g2, g3, g4⟩ := HD.out.1
      exact bodyPost_ret (v := .agg #[.int .i64 0, .int .i64 i, .string nm, .slice AL ls.length cl, .slice AK ks.length ck]) (by simp [results, Tryd.results38, go_sem, z0, z1, z2, z3, z4]) rfl (by rw [HX.out]; exact ⟨HD.out.2.1, by show WkS pw _ ((n + 1 : Nat) : Int) w3; rw [Int.natCast_add]; rw [er_zero_right]; exact HD.out.2.2.1, _, _, _, _, _, _, _, _, _, rfl, HD.out.2.2.2⟩)
  · have dk : (k == 0) = false := by simpa using hk
    have HX := Lib.hid (show suT vals (.mk k i nm ls ks) D n = ⟨(suL vals ks k D 0 (n + 1)).n, (suL vals ks k D 0 (n + 1)).e, .mk k i nm ls (suL vals ks k D 0 (n + 1)).ts⟩ by rw [suT, if_neg hn, if_neg hk])
    obtain ⟨i0, hi, hz0, hz1, hz2⟩ := info_parts infoTm
    clear HT
    go_upto_region 8 with fail
    have hR1 := HR0.out.next hpw ((Kp.refl _ _).setP 1 (.int .i64 ((n : Int) + 1))) (HR0.out.wk.setN ((n : Int) + 1))
    generalize W2.setCell ⟨pw, 1, none⟩ (.int .i64 ((n : Int) + 1)) = W5 at hR1 ⊢
    have HR1 := Lib.hid hR1
    clear hR1 HR0 y0 y1 y2 y3 y4 q0 q1 q2 q3
    obtain ⟨y0, y1, y2, y3, y4, _, _, _, _, _⟩ := HR1.out.bx
    obtain ⟨q0, q1, q2, q3⟩ := HR1.out.wk
    go_wp2_with fail
    go_loopw [10, 11] (fun s10 s11 wx => ∃ (j : Nat) (ts : List Tm) (us : List Value) (ea : Int) (na : Nat) (sv : Value), sv = s10 ∧ j ≤ ks.length ∧ s11 = .int .i64 (j : Int) ∧ Hid (ts.length = j) ∧ na ≤ 1500000 ∧ Hid ((suL vals (ks.drop j) k D j na).n = (suL vals ks k D 0 (n + 1)).n ∧ er ea (suL vals (ks.drop j) k D j na).e = (suL vals ks k D 0 (n + 1)).e ∧ ts ++ (suL vals (ks.drop j) k D j na).ts = (suL vals ks k D 0 (n + 1)).ts) ∧ Hid (RS w pw B k i nm AL ls.length cl AK ks.length ck (er e0 ea) na ts us sv wx)) (fun _ s11 _ => ks.length - (intOf s11).toNat)
    case atStart => exact ⟨0, [], [], 0, n + 1, _, rfl, Nat.zero_le _, rfl, Lib.hid rfl, by omega, Lib.hid ⟨rfl, er_zero _, rfl⟩, Lib.hid (by rw [er_zero_right]; exact HR1.out)⟩
    case round =>
      obtain ⟨j, ts, us, ea, na, sv, hsv, hj, rfl, hlen, hna, HJ, HRS⟩ := hrel
      subst hsv
      clear HR1 y0 y1 y2 y3 y4 q0 q1 q2 q3
      obtain ⟨y0, y1, y2, y3, y4, f0, f1, f2, f3, f4⟩ := HRS.out.bx
      by_cases hjl : j < ks.length
      · obtain ⟨kb, ko, rfl, hkS, hkc⟩ := HKS.out (by omega)
        obtain ⟨c0, c1, c2, c3, c4, u0, u1, u2, u3, u4, hqt⟩ := hkc.at_ (List.getElem?_eq_getElem hjl)
        obtain ⟨qk, qi, qn, qAL, qnl, qcl, qAK, qnk, qck, hqe, _⟩ := hqt.open_
        simp only [Value.agg.injEq, Array.mk.injEq, List.cons.injEq, and_true] at hqe
        obtain ⟨rfl, rfl, rfl, rfl, rfl⟩ := hqe
        have hst := szL_mem (List.getElem_mem hjl)
        have hsz' := HSZ.out
        rw [szT] at hsz'
        have hb1 : bbN k j ≤ 1 := by unfold bbN; split <;> omega
        have HD := Lib.hid (drop_su vals (k := k) (D := D) (n := na) hjl)
        have HBD := Lib.hid (show binI k (j : Int) = ((bbN k j : Nat) : Int) from binI_bind k j)
        have hqq := HQ.out.kid hjl
        have HLE := Lib.hid (suT_le (vals := vals) (fun x hx => (HVALS.out x hx).1) ks[j] (D + bbN k j) na hna)
        have hIH := fun (e1 : Int) (W : World) (hW : TmP W (fun q => q < B ∧ q ≠ pw) ks[j] (.agg #[.int .i64 qk, .int .i64 qi, .string qn, .slice qAL qnl qcl, .slice qAK qnk qck])) (hV : VsP W (fun q => q < B ∧ q ≠ pw) AV vals) (hBW : B ≤ W.heap.size) (hk : WkS pw e1 na W) => IH.out ks[j] _ (D + bbN k j) B pw e1 na W (by omega) (by omega) hna hqq hW hV hBW hk
        have HIH := Lib.hid hIH
        have HQT := Lib.hid hqt
        have hdb : D + bbN k j ≤ 1000000 := by omega
        generalize ks[j] = q at *
        generalize hbb : bbN k j = bb at *
        have wr2 : IntKind.i64.wrap ((D : Int) + (bb : Int)) = (D : Int) + (bb : Int) := wrap_in _ (by omega)
        clear hbb hst hsz' hqq hIH hqt
        have HBe := Lib.hid (fun W => rbelow_any k j W)
        have hkb : kb < w.heap.size := by omega
        have HU := Lib.hid (And.intro u0 (And.intro u1 (And.intro u2 (And.intro u3 u4))))
        clear u0 u1 u2 u3 u4 hkc
        have HNX := Lib.hid (show ∀ (e1 n1 : Int) (ts : List Tm) (us : List Value) (sv : Value) (W : World), RS w pw B k i nm AL ls.length cl (some ⟨kb, ko, none⟩) ks.length ck e1 n1 ts us sv W → W.cell? ⟨w.heap.size, 0, none⟩ = some (.int .i64 k) ∧ W.cell? ⟨w.heap.size, 4, none⟩ = some (.slice (some ⟨kb, ko, none⟩) ks.length ck) ∧ W.cell? ⟨kb, ko + j * 5, none⟩ = some (.int .i64 qk) ∧ W.cell? ⟨kb, ko + j * 5 + 1, none⟩ = some (.int .i64 qi) ∧ W.cell? ⟨kb, ko + j * 5 + 2, none⟩ = some (.string qn) ∧ W.cell? ⟨kb, ko + j * 5 + 3, none⟩ = some (.slice qAL qnl qcl) ∧ W.cell? ⟨kb, ko + j * 5 + 4, none⟩ = some (.slice qAK qnk qck) from fun e1 n1 ts us sv W h => ⟨h.bx.x0, h.bx.x4, (h.kp.cell (p := ⟨kb, ko + j * 5, none⟩) hkb hkS.2).trans HU.out.1, (h.kp.cell (p := ⟨kb, ko + j * 5 + 1, none⟩) hkb hkS.2).trans HU.out.2.1, (h.kp.cell (p := ⟨kb, ko + j * 5 + 2, none⟩) hkb hkS.2).trans HU.out.2.2.1, (h.kp.cell (p := ⟨kb, ko + j * 5 + 3, none⟩) hkb hkS.2).trans HU.out.2.2.2.1, (h.kp.cell (p := ⟨kb, ko + j * 5 + 4, none⟩) hkb hkS.2).trans HU.out.2.2.2.2⟩)
        go_upto_region 16 with fail
        have hdr : RS w pw B k i nm AL ls.length cl (some ⟨kb, ko, none⟩) ks.length ck (er e0 ea) na ts us sv wr.drew := HRS.out.next hpw ((Kp.refl _ _).newP (Below.refl _ _).drew) (HRS.out.wk.next (Below.refl _ _).drew)
        have HR := Lib.hid hdr
        clear hdr
        have HI := Lib.hid (show ∀ (e1 : Int) (W : World), RS w pw B k i nm AL ls.length cl (some ⟨kb, ko, none⟩) ks.length ck e1 na ts us sv W → Calls Tryd.prog 38 #[.pointer (some ⟨pw, 0, none⟩), .agg #[.int .i64 qk, .int .i64 qi, .string qn, .slice qAL qnl qcl, .slice qAK qnk qck], .slice AV vals.length cv, .int .i64 ((D : Int) + (bb : Int))] W (RuP pw B e1 (suT vals q (D + bb) na) W) from fun e1 W h => by
          have h' := HIH.out e1 W (tmP_kp HQT.out h.kp (fun q h => h.2)) (HVS.out.kp h.kp hB) (by have := h.kp.size; omega) h.wk
          rw [Int.natCast_add] at h'
          exact h')
        have HA8 := Lib.hid (show ∀ (e1 : Int) (W : World) (ew : Ending) (w8 : World), RS w pw B k i nm AL ls.length cl (some ⟨kb, ko, none⟩) ks.length ck e1 na ts us sv W → RuP pw B e1 (suT vals q (D + bb) na) W ew w8 → ∃ rk ri rn rAL rnl rcl rAK rnk rck, ew = .returned (.agg #[.int .i64 rk, .int .i64 ri, .string rn, .slice rAL rnl rcl, .slice rAK rnk rck]) ∧ RS w pw B k i nm AL ls.length cl (some ⟨kb, ko, none⟩) ks.length ck (er e1 (suT vals q (D + bb) na).e) (suT vals q (D + bb) na).n ts us sv w8 ∧ TmP w8 (fun q => (q < B ∨ w.heap.size + 2 ≤ q) ∧ q ≠ pw ∧ sv.ownBlock ≠ some q) (suT vals q (D + bb) na).t (.agg #[.int .i64 rk, .int .i64 ri, .string rn, .slice rAL rnl rcl, .slice rAK rnk rck]) from fun e1 W ew w8 h h8 => by
          obtain ⟨hk8, hw8, rk, ri, rn, rAL, rnl, rcl, rAK, rnk, rck, rfl, ht8⟩ := h8
          refine ⟨rk, ri, rn, rAL, rnl, rcl, rAK, rnk, rck, rfl, h.next hpw hk8 hw8, TmP.mono (fun q hq _ => ⟨hq.1.imp id (fun h' => by have := h.br.lt; omega), hq.2, fun e => ?_⟩) _ _ ht8⟩
          rcases h.own.2 with ⟨hv, _⟩ | ⟨g, cap, cur, hv, hg, hh, _⟩
          · rw [hv] at e; simp [Value.ownBlock] at e
          · rw [hv] at e
            simp only [Value.ownBlock, Option.some.injEq] at e
            have := (Array.getElem?_eq_some_iff.1 hh).1
            rcases hq.1 with h' | h'
            · omega
            · omega)
        have HNX2 := Lib.hid (fun (e1 n1 : Int) (W : World) (o : Obj) (h : RS w pw B k i nm AL ls.length cl (some ⟨kb, ko, none⟩) ks.length ck e1 n1 ts us sv W) => HNX.out e1 n1 ts us sv (W.alloc o) (h.next hpw ((Kp.refl _ _).newP ((Below.refl _ _).alloc (Nat.le_refl _) o)) (h.wk.next ((Below.refl _ _).alloc (Nat.le_refl _) o))))
        have htl : ts.length < ks.length := by have := hlen.out; omega
        have hpB : B ≤ w.heap.size := hB
        clear y0 y1 y2 y3 y4 f0 f1 f2 f3 f4 HRS HIH
        refine wp_region_held_drew (S := fun w' => w'.cell? ⟨w.heap.size, 0, none⟩ = some (.int .i64 k) ∧ w'.cell? ⟨w.heap.size, 4, none⟩ = some (.slice (some ⟨kb, ko, none⟩) ks.length ck) ∧ w'.cell? ⟨kb, ko + j * 5, none⟩ = some (.int .i64 qk) ∧ w'.cell? ⟨kb, ko + j * 5 + 1, none⟩ = some (.int .i64 qi) ∧ w'.cell? ⟨kb, ko + j * 5 + 2, none⟩ = some (.string qn) ∧ w'.cell? ⟨kb, ko + j * 5 + 3, none⟩ = some (.slice qAL qnl qcl) ∧ w'.cell? ⟨kb, ko + j * 5 + 4, none⟩ = some (.slice qAK qnk qck)) (by kernel_rfl) (HNX.out _ _ _ _ _ _ HR.out) ?_
        intro hS
        refine wpAnyH_take (i := 0) (oi := { dst := some 85, op := Op.move (Operand.tmp 10), type := 23, pos := "ref.go:86", after := #[], guard := none }) (v := sv) rfl (by kernel_rfl) (by kernel_rfl) (by kernel_rfl) (fun _ _ _ h => h) (Or.inl ⟨by rfl, ?_⟩) hS ?_
        · intro w9 hSw
          obtain ⟨s0, s1, s2, s3, s4, s5, s6⟩ := hSw
          go_simp
        simp only [Act.put, List.setIfInBounds_toArray, List.set_cons_zero, List.set_cons_succ]
        refine wpAnyH_take (i := 1) (oi := { dst := some 86, op := Op.move (Operand.tmp 0), type := 61, pos := "ref.go:86", after := #[], guard := none }) (v := .pointer (some ⟨pw, 0, none⟩)) rfl (by kernel_rfl) (by kernel_rfl) (by kernel_rfl) (fun _ _ _ h => h) (Or.inl ⟨by rfl, ?_⟩) hS ?_
        · intro w9 hSw
          obtain ⟨s0, s1, s2, s3, s4, s5, s6⟩ := hSw
          go_simp
        simp only [Act.put, List.setIfInBounds_toArray, List.set_cons_zero, List.set_cons_succ]
        refine wpAnyH_take (i := 2) (oi := { dst := some 87, op := Op.fieldAddr 25 (Operand.tmp 5) 4, type := 0, pos := "ref.go:86", after := #[], guard := none }) (v := .pointer (some ⟨w.heap.size, 4, none⟩)) rfl (by kernel_rfl) (by kernel_rfl) (by kernel_rfl) (fun _ _ _ h => h) (Or.inl ⟨by rfl, ?_⟩) hS ?_
        · intro w9 hSw
          obtain ⟨s0, s1, s2, s3, s4, s5, s6⟩ := hSw
          go_simp
        simp only [Act.put, List.setIfInBounds_toArray, List.set_cons_zero, List.set_cons_succ]
        refine wpAnyH_take (i := 3) (oi := { dst := some 88, op := Op.load 23 (Operand.tmp 87), type := 23, pos := "ref.go:86", after := #[{ on := 2, ground := Ground.data }], guard := none }) (v := .slice (some ⟨kb, ko, none⟩) ks.length ck) rfl (by kernel_rfl) (by kernel_rfl) (by kernel_rfl) (fun _ _ _ h => h) (Or.inl ⟨by rfl, ?_⟩) hS ?_
        · intro w9 hSw
          obtain ⟨s0, s1, s2, s3, s4, s5, s6⟩ := hSw
          go_simp
        simp only [Act.put, List.setIfInBounds_toArray, List.set_cons_zero, List.set_cons_succ]
        refine wpAnyH_take (i := 4) (oi := { dst := some 89, op := Op.move (Operand.tmp 11), type := 3, pos := "ref.go:86", after := #[], guard := none }) (v := .int .i64 (j : Int)) rfl (by kernel_rfl) (by kernel_rfl) (by kernel_rfl) (fun _ _ _ h => h) (Or.inl ⟨by rfl, ?_⟩) hS ?_
        · intro w9 hSw
          obtain ⟨s0, s1, s2, s3, s4, s5, s6⟩ := hSw
          go_simp
        simp only [Act.put, List.setIfInBounds_toArray, List.set_cons_zero, List.set_cons_succ]
        refine wpAnyH_take (i := 5) (oi := { dst := some 90, op := Op.indexAddr 23 (Operand.tmp 88) (Operand.tmp 89), type := 0, pos := "ref.go:86", after := #[{ on := 3, ground := Ground.data }, { on := 4, ground := Ground.data }], guard := none }) (v := .pointer (some ⟨kb, ko + j * 5, none⟩)) rfl (by kernel_rfl) (by kernel_rfl) (by kernel_rfl) (fun _ _ _ h => h) (Or.inl ⟨by rfl, ?_⟩) hS ?_
        · intro w9 hSw
          obtain ⟨s0, s1, s2, s3, s4, s5, s6⟩ := hSw
          go_simp
        simp only [Act.put, List.setIfInBounds_toArray, List.set_cons_zero, List.set_cons_succ]
        refine wpAnyH_take (i := 6) (oi := { dst := some 91, op := Op.load 25 (Operand.tmp 90), type := 25, pos := "ref.go:86", after := #[{ on := 5, ground := Ground.data }], guard := none }) (v := .agg #[.int .i64 qk, .int .i64 qi, .string qn, .slice qAL qnl qcl, .slice qAK qnk qck]) rfl (by kernel_rfl) (by kernel_rfl) (by kernel_rfl) (fun _ _ _ h => h) (Or.inl ⟨by rfl, ?_⟩) hS ?_
        · intro w9 hSw
          obtain ⟨s0, s1, s2, s3, s4, s5, s6⟩ := hSw
          go_simp
        simp only [Act.put, List.setIfInBounds_toArray, List.set_cons_zero, List.set_cons_succ]
        refine wpAnyH_take (i := 7) (oi := { dst := some 92, op := Op.move (Operand.tmp 2), type := 23, pos := "ref.go:86", after := #[], guard := none }) (v := .slice AV vals.length cv) rfl (by kernel_rfl) (by kernel_rfl) (by kernel_rfl) (fun _ _ _ h => h) (Or.inl ⟨by rfl, ?_⟩) hS ?_
        · intro w9 hSw
          obtain ⟨s0, s1, s2, s3, s4, s5, s6⟩ := hSw
          go_simp
        simp only [Act.put, List.setIfInBounds_toArray, List.set_cons_zero, List.set_cons_succ]
        refine wpAnyH_take (i := 8) (oi := { dst := some 93, op := Op.move (Operand.tmp 3), type := 3, pos := "ref.go:86", after := #[], guard := none }) (v := .int .i64 (D : Int)) rfl (by kernel_rfl) (by kernel_rfl) (by kernel_rfl) (fun _ _ _ h => h) (Or.inl ⟨by rfl, ?_⟩) hS ?_
        · intro w9 hSw
          obtain ⟨s0, s1, s2, s3, s4, s5, s6⟩ := hSw
          go_simp
        simp only [Act.put, List.setIfInBounds_toArray, List.set_cons_zero, List.set_cons_succ]
        refine wpAnyH_take (i := 9) (oi := { dst := some 94, op := Op.fieldAddr 25 (Operand.tmp 5) 0, type := 0, pos := "ref.go:86", after := #[], guard := none }) (v := .pointer (some ⟨w.heap.size, 0, none⟩)) rfl (by kernel_rfl) (by kernel_rfl) (by kernel_rfl) (fun _ _ _ h => h) (Or.inl ⟨by rfl, ?_⟩) hS ?_
        · intro w9 hSw
          obtain ⟨s0, s1, s2, s3, s4, s5, s6⟩ := hSw
          go_simp
        simp only [Act.put, List.setIfInBounds_toArray, List.set_cons_zero, List.set_cons_succ]
        refine wpAnyH_take (i := 10) (oi := { dst := some 95, op := Op.load 3 (Operand.tmp 94), type := 3, pos := "ref.go:86", after := #[{ on := 9, ground := Ground.data }], guard := none }) (v := .int .i64 k) rfl (by kernel_rfl) (by kernel_rfl) (by kernel_rfl) (fun _ _ _ h => h) (Or.inl ⟨by rfl, ?_⟩) hS ?_
        · intro w9 hSw
          obtain ⟨s0, s1, s2, s3, s4, s5, s6⟩ := hSw
          go_simp
        simp only [Act.put, List.setIfInBounds_toArray, List.set_cons_zero, List.set_cons_succ]
        refine wpAnyH_take (i := 11) (oi := { dst := some 96, op := Op.move (Operand.tmp 11), type := 3, pos := "ref.go:86", after := #[], guard := none }) (v := .int .i64 (j : Int)) rfl (by kernel_rfl) (by kernel_rfl) (by kernel_rfl) (fun _ _ _ h => h) (Or.inl ⟨by rfl, ?_⟩) hS ?_
        · intro w9 hSw
          obtain ⟨s0, s1, s2, s3, s4, s5, s6⟩ := hSw
          go_simp
        simp only [Act.put, List.setIfInBounds_toArray, List.set_cons_zero, List.set_cons_succ]
        refine wpAnyH_ready (rs := [12]) (by kernel_rfl) (List.cons_ne_nil _ _) ?_
        refine AllReadyH.cons (o := { dst := some 97, op := Op.call { callee := Callee.value (Operand.func 59), args := #[Operand.tmp 95, Operand.tmp 96], argTypes := #[3, 3] }, type := 3, pos := "ref.go:86", after := #[{ on := 10, ground := Ground.data }, { on := 11, ground := Ground.data }], guard := none }) rfl (fun K hK => ?_) AllReadyH.nil
        go_simp
        go_at_call 59
        refine (HBe.out _).mono ?_
        rw [HBD.out]
        rintro e w7 ⟨rfl, hw7⟩
        have HR := Lib.hid (show RS w pw B k i nm AL ls.length cl (some ⟨kb, ko, none⟩) ks.length ck (er e0 ea) na ts us sv w7 from by rw [hw7]; exact HR.out)
        clear hw7
        try go_simp
        refine hK _ _ (HNX.out _ _ _ _ _ _ HR.out) ?_
        clear hS
        intro hS
        clear hK K
        refine wpAnyH_take (i := 13) (oi := { dst := some 98, op := Op.binOp BinOp.add 3 (Operand.tmp 93) (Operand.tmp 97) 3, type := 3, pos := "ref.go:86", after := #[{ on := 8, ground := Ground.data }, { on := 12, ground := Ground.data }], guard := none }) (v := .int .i64 ((D : Int) + (bb : Int))) rfl (by kernel_rfl) (by kernel_rfl) (by kernel_rfl) (fun _ _ _ h => h) (Or.inl ⟨by rfl, ?_⟩) hS ?_
        · intro w9 hSw
          obtain ⟨s0, s1, s2, s3, s4, s5, s6⟩ := hSw
          go_simp
        simp only [Act.put, List.setIfInBounds_toArray, List.set_cons_zero, List.set_cons_succ]
        refine wpAnyH_ready (rs := [14]) (by kernel_rfl) (List.cons_ne_nil _ _) ?_
        refine AllReadyH.cons (o := { dst := some 99, op := Op.call { callee := Callee.value (Operand.func 38), args := #[Operand.tmp 86, Operand.tmp 91, Operand.tmp 92, Operand.tmp 98], argTypes := #[61, 25, 23, 3] }, type := 25, pos := "ref.go:86", after := #[{ on := 1, ground := Ground.data }, { on := 6, ground := Ground.data }, { on := 7, ground := Ground.data }, { on := 13, ground := Ground.data }, { on := 12, ground := Ground.chain }], guard := none }) rfl (fun K hK => ?_) AllReadyH.nil
        go_simp
        go_at_call 38
        refine (HI.out _ _ HR.out).mono ?_
        intro e w8 h8
        obtain ⟨rk, ri, rn, rAL, rnl, rcl, rAK, rnk, rck, rfl, hR8, ht8⟩ := HA8.out _ _ _ _ HR.out h8
        have HR := Lib.hid hR8
        have HT8 := Lib.hid ht8
        clear h8 hR8 ht8
        try go_simp
        refine hK _ _ (HNX.out _ _ _ _ _ _ HR.out) ?_
        clear hS
        intro hS
        clear hK K
        refine wpAnyH_ready (rs := [15]) (by kernel_rfl) (List.cons_ne_nil _ _) ?_
        refine AllReadyH.cons (o := { dst := some 100, op := Op.buildSlice 23 1 #[(0, Operand.tmp 99)], type := 23, pos := "ref.go:86", after := #[{ on := 14, ground := Ground.data }], guard := none }) rfl (fun K hK => ?_) AllReadyH.nil
        go_simp
        refine hK _ _ (HNX2.out _ _ _ _ HR.out) ?_
        clear hS
        intro hS
        clear hK K
        refine wpAnyH_ready (rs := [16]) (by kernel_rfl) (List.cons_ne_nil _ _) ?_
        refine AllReadyH.cons (o := { dst := some 101, op := Op.call { callee := Callee.builtin Builtin.append, args := #[Operand.tmp 85, Operand.tmp 100], argTypes := #[23, 23] }, type := 23, pos := "ref.go:86", after := #[{ on := 0, ground := Ground.data }, { on := 15, ground := Ground.data }, { on := 14, ground := Ground.chain }], guard := none }) rfl (fun K hK => ?_) AllReadyH.nil
        refine step_append_lies _ rfl (.tmp 85) (.tmp 100) 23 rfl (w.heap.size + 2) 25 i0 (.agg #[.int .i64 0, .int .i64 0, .string ⟨#[]⟩, .slice none 0 0, .slice none 0 0]) 5 80 Tryd.underlying23 hi hz0 hz1 hz2 rfl (by decide) sv ts.length us (by simp [Act.eval]) (World.ownsRow.alloc HR.out.own _) ⟨w8.heap.size, 0, none⟩ 1 1 [.int .i64 rk, .int .i64 ri, .string rn, .slice rAL rnl rcl, .slice rAK rnk rck] (by simp [Act.eval]) rfl ?qn ?q1 (by decide) ?qm ?qb ?qs _ rfl ?_
        case qn => intro m u hu; rw [Addr.add_lit, Nat.zero_add, cell_of_row _ _ m _ _ _ (World.alloc_heap_new w8 (.cells #[.int .i64 rk, .int .i64 ri, .string rn, .slice rAL rnl rcl, .slice rAK rnk rck] 25))]; simpa using hu
        case q1 => intro u hu; simp at hu; rcases hu with rfl | rfl | rfl | rfl | rfl <;> rfl
        case qm => unfold maxLen; omega
        case qb => omega
        case qs => have := HR.out.kp.size; have := HR.out.br.lt; simp; omega
        intro g6 cap6 w9 hown hgrow hwhere hlt2
        have HR := Lib.hid (HR.out.grow (by omega) (by omega) HT8.out ((Below.refl _ _).alloc (Nat.le_refl _) _) hown hgrow hwhere).1
        clear hown hgrow hwhere hlt2 HT8
        refine hK _ _ (HNX.out _ _ _ _ _ _ HR.out) ?_
        clear hS
        intro hS
        clear hK K
        refine wpAnyH_take (i := 17) (oi := { dst := some 10, op := Op.assign (Operand.tmp 101), type := 23, pos := "ref.go:86", after := #[{ on := 16, ground := Ground.data }, { on := 16, ground := Ground.chain }, { on := 0, ground := Ground.phase }, { on := 1, ground := Ground.phase }, { on := 2, ground := Ground.phase }, { on := 3, ground := Ground.phase }, { on := 4, ground := Ground.phase }, { on := 5, ground := Ground.phase }, { on := 6, ground := Ground.phase }, { on := 7, ground := Ground.phase }, { on := 8, ground := Ground.phase }, { on := 9, ground := Ground.phase }, { on := 10, ground := Ground.phase }, { on := 11, ground := Ground.phase }, { on := 12, ground := Ground.phase }, { on := 13, ground := Ground.phase }, { on := 14, ground := Ground.phase }, { on := 15, ground := Ground.phase }, { on := 16, ground := Ground.phase }], guard := none }) (v := .slice (some ⟨g6, 0, none⟩) (ts.length + 1) cap6) rfl (by kernel_rfl) (by kernel_rfl) (by kernel_rfl) (fun _ _ _ h => h) (Or.inl ⟨by rfl, ?_⟩) hS ?_
        · intro w9 hSw
          obtain ⟨s0, s1, s2, s3, s4, s5, s6⟩ := hSw
          go_simp
        simp only [Act.put, List.setIfInBounds_toArray, List.set_cons_zero, List.set_cons_succ]
        refine wpAnyH_done (by kernel_rfl) ?_ _

        have HLN := Lib.hid (show (ts ++ [(suT vals q (D + bb) na).t]).length = j + 1 by rw [List.length_append, hlen.out]; rfl)
        have HJN : Hid ((suL vals (ks.drop (j + 1)) k D (j + 1) (suT vals q (D + bb) na).n).n = (suL vals ks k D 0 (n + 1)).n ∧ er (er ea (suT vals q (D + bb) na).e) (suL vals (ks.drop (j + 1)) k D (j + 1) (suT vals q (D + bb) na).n).e = (suL vals ks k D 0 (n + 1)).e ∧ (ts ++ [(suT vals q (D + bb) na).t]) ++ (suL vals (ks.drop (j + 1)) k D (j + 1) (suT vals q (D + bb) na).n).ts = (suL vals ks k D 0 (n + 1)).ts) := Lib.hid (by
          have hJ := HJ.out
          rw [HD.out] at hJ
          exact ⟨hJ.1, by rw [er_assoc]; exact hJ.2.1, by rw [List.append_assoc, List.singleton_append]; exact hJ.2.2⟩)
        have hrn := HR.out
        rw [er_assoc] at hrn
        have HRN := Lib.hid hrn
        clear hS hrn
        have HLE2 := Lib.hid HLE.out
        go_wp2_with fail
        go_roundw
        case rel => exact ⟨j + 1, _, _, _, _, _, rfl, hjl, by go_num, HLN, HLE2.out, HJN, HRN⟩
        case measure => simp [intOf]; omega
      · have hji : decide ((j : Int) < (ks.length : Int)) = false := by rw [decide_eq_false_iff_not]; omega
        have hjj := HJ.out
        rw [List.drop_of_length_le (by omega), suL] at hjj
        have HE0 := Lib.hid (show (suL vals ks k D 0 (n + 1)).n = na from hjj.1.symm)
        have HE1 := Lib.hid (show (suL vals ks k D 0 (n + 1)).e = ea by rw [← hjj.2.1]; exact er_zero_right ea)
        have HE2 := Lib.hid (show (suL vals ks k D 0 (n + 1)).ts = ts by rw [← hjj.2.2]; exact List.append_nil ts)
        have htl : ts.length ≤ ks.length := by have := hlen.out; omega
        obtain ⟨svA, svc, rfl⟩ : ∃ A c, sv = .slice A ts.length c := by
          rcases HRS.out.own.2 with ⟨rfl, h0⟩ | ⟨g, cap, cur, rfl, _⟩
          · exact ⟨none, 0, by rw [h0]⟩
          · exact ⟨_, _, rfl⟩
        have hK := HRS.out.kids hpw hB
        have hN := hK.node hpw (by omega) HLS.out
        have hd := hK.done hpw hB hN
        unfold set5 at hd
        simp only [Nat.zero_add] at hd
        have HD := Lib.hid hd
        have HK := Lib.hid hK
        clear hd hN hK hjj HRS hlen
        go_upto_region 18 with fail
        generalize wr.setCell ⟨w.heap.size, 4, none⟩ (.slice svA ts.length svc) = w1 at HK HD ⊢
        clear y0 y1 y2 y3 y4 f0 f1 f2 f3 f4
        obtain ⟨y0, y1, y2, y3, y4, _, _, _, _, _⟩ := HK.out.bx
        obtain ⟨z0, z1, z2, z3, z4, g0, g1, g2, g3, g4⟩ := HK.out.br
        have hlt1 := HK.out.br.lt
        go_wp2_with fail
        generalize (((((w1.setCell ⟨w.heap.size + 1, 0, none⟩ (.int .i64 k)).setCell ⟨w.heap.size + 1, 1, none⟩ (.int .i64 i)).setCell ⟨w.heap.size + 1, 2, none⟩ (.string nm)).setCell ⟨w.heap.size + 1, 3, none⟩ (.slice AL ls.length cl)).setCell ⟨w.heap.size + 1, 4, none⟩ (.slice svA ts.length svc)) = w3 at HD ⊢
        clear z0 z1 z2 z3 z4 g0 g1 g2 g3 g4
        obtain ⟨z0, z1, z2, z3, z4, g0, g1, g2, g3, g4⟩ := HD.out.1
        exact bodyPost_ret (v := .agg #[.int .i64 k, .int .i64 i, .string nm, .slice AL ls.length cl, .slice svA ts.length svc]) (by simp [results, Tryd.results38, go_sem, z0, z1, z2, z3, z4]) rfl (by rw [HX.out]; refine ⟨HD.out.2.1, ?_, _, _, _, _, _, _, _, _, _, rfl, ?_⟩; (show WkS pw (er e0 (suL vals ks k D 0 (n + 1)).e) ((suL vals ks k D 0 (n + 1)).n : Int) w3; rw [HE1.out, HE0.out]; exact HD.out.2.2.1); (show TmP w3 _ (.mk k i nm ls (suL vals ks k D 0 (n + 1)).ts) _; rw [HE2.out]; exact HD.out.2.2.2))
end Go.Proofs.YtobaeeobfcffoaaDoor