/- The reference's rename; it makes of a term what the program's makes. -/
import Derived.Test.YtobaeeobfcffoaaDoorRsu
import Derived.Test.YtobaeeobfcffoaaDoorRnc
namespace Go.Proofs.YtobaeeobfcffoaaDoor
open Go.RowKit

/-- The reference's rename at a node. -/
def rnR (tos : List Int) : Tm → Nat → Option Ou
  | .mk k i nm ls ks, d => if k = 0 then some (if i < d then ⟨1, 0, 0, .mk k i nm ls ks⟩ else match tos[(i - d).toNat]? with
      | some x => if x < 0 ∨ 65535 - (d : Int) < x then ⟨if x < 0 ∨ 65535 < x then 0 else 1, 0, 24, .mk k i nm ls ks⟩ else ⟨1, 0, big (x + d), vr (x + d)⟩
      | none => ⟨0, 0, 24, .mk k i nm ls ks⟩) else none
theorem rn_node (tos : List Int) (t : Tm) (d : Nat) (h : Wg t d) : AgO t (renR tos t d) (rnR tos t d) := by
  cases t with
  | mk k i nm ls ks =>
    by_cases hk : k = 0
    · obtain ⟨e, hi⟩ := h.1.eq hk
      obtain ⟨_, rfl, rfl, rfl⟩ : k = 0 ∧ nm = ⟨#[]⟩ ∧ ls = [] ∧ ks = [] := by unfold vr at e; simpa using e
      subst hk
      simp only [renR, rnR, if_pos]
      by_cases h1 : i < d
      · rw [if_pos h1, if_neg (by omega)]
        exact .left rfl
      · rw [if_neg h1, if_pos ⟨trivial, by omega⟩]
        cases hx : tos[(i - d).toNat]? with
        | none => exact .some ⟨rfl, rfl, rfl, fun e => by cases e⟩
        | some x =>
          simp only
          by_cases h2 : x < 0 ∨ 65535 < x
          · rw [if_pos h2, if_pos (by omega), if_pos h2]
            exact .some ⟨rfl, rfl, rfl, fun e => by cases e⟩
          · rw [if_neg h2]
            by_cases h3 : x < 0 ∨ 65535 - (d : Int) < x
            · rw [if_pos h3, if_neg h2]
              have hb : big (x + d) = 24 := by unfold big; rw [if_pos (by omega)]
              exact .some ⟨rfl, rfl, hb, fun e => by rw [hb] at e; cases e⟩
            · rw [if_neg h3]
              exact .some ⟨rfl, rfl, rfl, fun _ => rfl⟩
    · have a1 : renR tos (.mk k i nm ls ks) d = none := by simp only [renR]; rw [if_neg (fun e => hk e.1)]
      have a2 : rnR tos (.mk k i nm ls ks) d = none := by simp only [rnR]; rw [if_neg hk]
      rw [a1, a2]
      exact .none
mutual
theorem cp_nl {R : Tm → Nat → Option Ou} (hR : ∀ t d x, R t d = some x → x.n ≤ 1) : ∀ (t : Tm) (d : Nat), (cpT R t d).n ≤ szT t
  | .mk k i nm ls ks, d => by
    cases hr : R (.mk k i nm ls ks) d with
    | some x => rw [cpT_some hr]; exact Nat.le_trans (hR _ _ _ hr) (szT_pos _)
    | none =>
      rw [cpT_none hr, szT]
      have := cp_nlL hR ks k d 0
      show 1 + _ ≤ 1 + _
      omega
theorem cp_nlL {R : Tm → Nat → Option Ou} (hR : ∀ t d x, R t d = some x → x.n ≤ 1) : ∀ (ks : List Tm) (k : Int) (d j : Nat), (cpL R ks k d j).n ≤ szL ks
  | [], _, _, _ => by rw [cpL, szL]; exact Nat.le_refl _
  | q :: r, k, d, j => by
    rw [cpL, szL]
    have h1 := cp_nl hR q (d + bbN k j)
    have h2 := cp_nlL hR r k d (j + 1)
    show _ + _ ≤ _
    omega
end
theorem renR_n (tos : List Int) : ∀ t d x, renR tos t d = some x → x.n ≤ 1 := by
  intro t d x h
  cases t with
  | mk k i nm ls ks =>
    simp only [renR] at h
    split at h
    · split at h
      · split at h
        · injection h with h; rw [← h]; exact Nat.zero_le _
        · injection h with h; rw [← h]; exact Nat.le_refl _
      · injection h with h; rw [← h]; exact Nat.zero_le _
    · cases h
/-- What the reference's Rename gives. -/
def rnE (tos : List Int) (t : Tm) : Int := (cpT (rnR tos) t 0).e
def rnO (tos : List Int) (t : Tm) : Tm := if rnE tos t = 0 then (cpT (rnR tos) t 0).t else nilT
theorem rn_ren {tos : List Int} {t : Tm} (h : AllT Wg t 0) (hz : szT t ≤ 4096) : rnE tos t = errO (cpT (renR tos) t 0) ∧ rnO tos t = resO (cpT (renR tos) t 0) := by
  have hag := cpT_ag (R := renR tos) (R' := rnR tos) t 0 (AllT.mono (fun t d h => rn_node tos t d h) _ _ h)
  have hn := cp_nl (renR_n tos) t 0
  have e0 : errO (cpT (renR tos) t 0) = (cpT (renR tos) t 0).e := by unfold errO; rw [if_neg (by omega)]
  have e1 : rnE tos t = errO (cpT (renR tos) t 0) := by rw [e0]; exact hag.2.2.1.symm
  refine ⟨e1, ?_⟩
  unfold rnO resO
  rw [e1]
  by_cases h : errO (cpT (renR tos) t 0) = 0
  · rw [if_pos h, if_pos h]
    exact (hag.2.2.2 (by rw [← e0]; exact h)).symm
  · rw [if_neg h, if_neg h]
/-- Numbers in a slice, whose block is not the walk's. -/
def IP (w : World) (B pw : Nat) (AT : Option Addr) (tos : List Int) : Prop := ∀ j p, tos[j]? = some p → ∃ ab ao, AT = some ⟨ab, ao, none⟩ ∧ (ab < B ∧ ab ≠ pw) ∧ w.cell? ⟨ab, ao + j, none⟩ = some (.int .i64 p)
theorem IP.kp {w w' : World} {B pw : Nat} {AT : Option Addr} {tos : List Int} (h : IP w B pw AT tos) (hk : Kp (MP pw) w w') (hB : B ≤ w.heap.size) : IP w' B pw AT tos := fun j p hj => by
  obtain ⟨ab, ao, e, hb, hc⟩ := h j p hj
  exact ⟨ab, ao, e, hb, (hk.cell (p := ⟨ab, ao + j, none⟩) (by show ab < _; omega) hb.2).trans hc⟩
set_option maxRecDepth 100000 in
set_option maxHeartbeats 16000000 in
theorem rrename_any (tos : List Int) (AT : Option Addr) (ct : Nat) : ∀ (N : Nat) (t : Tm) (v : Value) (D B pw : Nat) (e0 n : Int) (w : World), szT t ≤ N → D + N ≤ 900000 → AllT Qv t D → TmP w (fun q => q < B ∧ q ≠ pw) t v → IP w B pw AT tos → B ≤ w.heap.size → WkS pw e0 n w →
    Calls Tryd.prog 42 #[.pointer (some ⟨pw, 0, none⟩), v, .slice AT tos.length ct, .int .i64 (D : Int)] w (RsP pw B e0 n (cpT (rnR tos) t D) w) := by
  intro N
  induction N with
  | zero => intro t v D B pw e0 n w h; have := szT_pos t; omega
  | succ N ih =>
  intro t v D B pw e0 n w hsz hdN hq hv hvs hB hw
  have hv0 := hv
  cases t with
  | mk k i nm ls ks =>
  rw [TmP] at hv
  obtain ⟨AL, cl, AK, ck, rfl, hls, hz, hks⟩ := hv
  have hpw := hw.lt
  have hR0 := RS.start (B := B) k i nm AL ls.length cl AK ks.length ck hw
  have hQ := hq.here
  have HQ := Lib.hid hq
  have HV := Lib.hid hv0
  have HVS := Lib.hid hvs
  have HLS := Lib.hid hls
  have HKS := Lib.hid hks
  have IH := Lib.hid ih
  have HSZ := Lib.hid hsz
  have HT := Lib.hid (show ∀ (e1 : Int) (ts : List Tm) (us : List Value) (sv : Value) (W : World), RS w pw B k i nm AL ls.length cl AK ks.length ck e1 n ts us sv W → TmP W (fun q => (q < B ∨ w.heap.size + 2 ≤ q) ∧ q ≠ pw) (.mk k i nm ls ks) (.agg #[.int .i64 k, .int .i64 i, .string nm, .slice AL ls.length cl, .slice AK ks.length ck]) from fun e1 ts us sv W h => TmP.mono (fun q h _ => ⟨.inl h.1, h.2⟩) _ _ (tmP_kp HV.out h.kp (fun q h => h.2)))
  have HR0 := Lib.hid hR0
  clear ih hq hv0 hls hks hw hsz hvs hR0
  go_enter Tryd.func42, Tryd.ntmps42
  go_upto_region 1 with fail
  generalize hW2 : (w.alloc (.cells #[.int .i64 k, .int .i64 i, .string nm, .slice AL ls.length cl, .slice AK ks.length ck] 25)).alloc (.cells #[.int .i64 0, .int .i64 0, .string ⟨#[]⟩, .slice none 0 0, .slice none 0 0] 25) = W2 at HR0 ⊢
  clear hW2
  obtain ⟨y0, y1, y2, y3, y4, _, _, _, _, _⟩ := HR0.out.bx
  have hlt0 := HR0.out.br.lt
  by_cases hk : k = 0
  · have hi := hQ hk
    subst hk
    by_cases h1 : i < (D : Int)
    · have d1 : decide (i < (D : Int)) = true := decide_eq_true h1
      have HX := Lib.hid (show cpT (rnR tos) (.mk 0 i nm ls ks) D = ⟨1, 0, 0, .mk 0 i nm ls ks⟩ from cpT_some (by simp only [rnR]; rw [if_pos trivial, if_pos h1]))
      have hd := HR0.out.done hpw hB (HT.out _ _ _ _ _ HR0.out)
      unfold set5 at hd
      simp only [Nat.zero_add] at hd
      have HD := Lib.hid hd
      clear hd HT
      obtain ⟨z0, z1, z2, z3, z4, g0, g1, g2, g3, g4⟩ := HR0.out.br
      go_wp2_with fail
      generalize (((((W2.setCell ⟨w.heap.size + 1, 0, none⟩ (.int .i64 0)).setCell ⟨w.heap.size + 1, 1, none⟩ (.int .i64 i)).setCell ⟨w.heap.size + 1, 2, none⟩ (.string nm)).setCell ⟨w.heap.size + 1, 3, none⟩ (.slice AL ls.length cl)).setCell ⟨w.heap.size + 1, 4, none⟩ (.slice AK ks.length ck)) = w3 at HD ⊢
      clear z0 z1 z2 z3 z4 g0 g1 g2 g3 g4
      obtain ⟨z0, z1, z2, z3, z4, g0, g1, g2, g3, g4⟩ := HD.out.1
      exact bodyPost_ret (v := .agg #[.int .i64 0, .int .i64 i, .string nm, .slice AL ls.length cl, .slice AK ks.length ck]) (by simp [results, Tryd.results42, go_sem, z0, z1, z2, z3, z4]) rfl (by rw [HX.out]; exact ⟨HD.out.2.1, by rw [er_zero_right]; exact HD.out.2.2.1, _, _, _, _, _, _, _, _, _, rfl, HD.out.2.2.2⟩)
    have d1 : decide (i < (D : Int)) = false := decide_eq_false h1
    obtain ⟨m, hm⟩ : ∃ m : Nat, i - (D : Int) = (m : Int) := ⟨(i - D).toNat, by omega⟩
    have HR9 := Lib.hid (show rnR tos (.mk 0 i nm ls ks) D = some (match tos[m]? with | some x => if x < 0 ∨ 65535 - (D : Int) < x then ⟨if x < 0 ∨ 65535 < x then 0 else 1, 0, 24, .mk 0 i nm ls ks⟩ else ⟨1, 0, big (x + D), vr (x + D)⟩ | none => ⟨0, 0, 24, .mk 0 i nm ls ks⟩) by simp only [rnR]; rw [if_pos trivial, if_neg h1, hm, show ((m : Int)).toNat = m by omega])
    by_cases hml : m < tos.length
    case' neg =>
      have h2 : decide ((tos.length : Int) ≤ (m : Int)) = true := decide_eq_true (by omega)
      have HX := Lib.hid (show ∃ nn, cpT (rnR tos) (.mk 0 i nm ls ks) D = ⟨nn, 0, 24, .mk 0 i nm ls ks⟩ from ⟨0, cpT_some (by rw [HR9.out, List.getElem?_eq_none_iff.2 (by omega)])⟩)
      go_upto_region 6 with fail
    case' pos =>
      have h2 : decide ((tos.length : Int) ≤ (m : Int)) = false := decide_eq_false (by omega)
      have hp0 : tos[m]? = some tos[m] := List.getElem?_eq_getElem hml
      obtain ⟨ab, ao, rfl, hab, gp⟩ := (HVS.out.kp HR0.out.kp hB) m tos[m] hp0
      rw [hp0] at HR9
      generalize tos[m] = p at *
      clear hp0
      have wr0 : IntKind.i64.wrap (65535 - (D : Int)) = 65535 - (D : Int) := wrap_in _ (by omega)
      by_cases hlo : p < 0
      case' pos =>
        have h3 : decide (p < 0) = true := decide_eq_true hlo
        have HX := Lib.hid (show ∃ nn, cpT (rnR tos) (.mk 0 i nm ls ks) D = ⟨nn, 0, 24, .mk 0 i nm ls ks⟩ from ⟨_, cpT_some (by rw [HR9.out]; exact congrArg some (if_pos (.inl hlo)))⟩)
        go_upto_region 6 with fail
      case' neg =>
        have h3 : decide (p < 0) = false := decide_eq_false hlo
        by_cases hhi : 65535 - (D : Int) < p
        case' pos =>
          have h4 : decide (65535 - (D : Int) < p) = true := decide_eq_true hhi
          have HX := Lib.hid (show ∃ nn, cpT (rnR tos) (.mk 0 i nm ls ks) D = ⟨nn, 0, 24, .mk 0 i nm ls ks⟩ from ⟨_, cpT_some (by rw [HR9.out]; exact congrArg some (if_pos (.inr hhi)))⟩)
          go_upto_region 6 with fail
        case' neg =>
          have h4 : decide (65535 - (D : Int) < p) = false := decide_eq_false hhi
          have HX := Lib.hid (show cpT (rnR tos) (.mk 0 i nm ls ks) D = ⟨1, 0, big (p + D), vr (p + D)⟩ from cpT_some (by rw [HR9.out]; exact congrArg some (if_neg (by omega))))
          have wr1 : IntKind.i64.wrap (p + (D : Int)) = p + (D : Int) := wrap_in _ (by omega)
          go_wp2_with fail
          refine (rvar_any pw e0 n (p + D) _ HR0.out.wk).mono ?_
          rintro e w6 ⟨rfl, hk6, hw6⟩
          have hR6 := HR0.out.next hpw hk6 hw6
          have hd := hR6.done hpw hB (t := vr (p + D)) (tmP_vr' _ _ _ none 0 none 0)
          unfold set5 at hd
          simp only [Nat.zero_add] at hd
          have HD := Lib.hid hd
          have hlt6 := hR6.br.lt
          clear hd hk6 hw6 HT y0 y1 y2 y3 y4 gp
          obtain ⟨z0, z1, z2, z3, z4, g0, g1, g2, g3, g4⟩ := hR6.br
          clear hR6
          go_wp2_with fail
          generalize (((((w6.setCell ⟨w.heap.size + 1, 0, none⟩ (.int .i64 0)).setCell ⟨w.heap.size + 1, 1, none⟩ (.int .i64 (p + (D : Int)))).setCell ⟨w.heap.size + 1, 2, none⟩ (.string ⟨#[]⟩)).setCell ⟨w.heap.size + 1, 3, none⟩ (.slice none 0 0)).setCell ⟨w.heap.size + 1, 4, none⟩ (.slice none 0 0)) = w3 at HD ⊢
          clear z0 z1 z2 z3 z4 g0 g1 g2 g3 g4
          obtain ⟨z0, z1, z2, z3, z4, g0, g1, g2, g3, g4⟩ := HD.out.1
          exact bodyPost_ret (v := .agg #[.int .i64 0, .int .i64 (p + (D : Int)), .string ⟨#[]⟩, .slice none 0 0, .slice none 0 0]) (by simp [results, Tryd.results42, go_sem, z0, z1, z2, z3, z4]) rfl (by rw [HX.out]; exact ⟨HD.out.2.1, HD.out.2.2.1, _, _, _, _, _, _, _, _, _, rfl, HD.out.2.2.2⟩)
    all_goals
      go_wp2_with fail
      refine (rfail_any pw e0 n 24 _ HR0.out.wk).mono ?_
      rintro e w6 ⟨rfl, hk6, hw6, _, _⟩
      have hR6 := HR0.out.next hpw hk6 hw6
      have hd := hR6.done hpw hB (HT.out _ _ _ _ _ hR6)
      unfold set5 at hd
      simp only [Nat.zero_add] at hd
      have HD := Lib.hid hd
      have hlt6 := hR6.br.lt
      clear hd hk6 hw6 HT y0 y1 y2 y3 y4
      obtain ⟨y0, y1, y2, y3, y4, _, _, _, _, _⟩ := hR6.bx
      obtain ⟨z0, z1, z2, z3, z4, g0, g1, g2, g3, g4⟩ := hR6.br
      clear hR6
      go_wp2_with fail
      generalize (((((w6.setCell ⟨w.heap.size + 1, 0, none⟩ (.int .i64 0)).setCell ⟨w.heap.size + 1, 1, none⟩ (.int .i64 i)).setCell ⟨w.heap.size + 1, 2, none⟩ (.string nm)).setCell ⟨w.heap.size + 1, 3, none⟩ (.slice AL ls.length cl)).setCell ⟨w.heap.size + 1, 4, none⟩ (.slice AK ks.length ck)) = w3 at HD ⊢
      clear z0 z1 z2 z3 z4 g0 g1 g2 g3 g4
      obtain ⟨z0, z1, z2, z3, z4, g0, g1, g2, g3, g4⟩ := HD.out.1
      exact bodyPost_ret (v := .agg #[.int .i64 0, .int .i64 i, .string nm, .slice AL ls.length cl, .slice AK ks.length ck]) (by simp [results, Tryd.results42, go_sem, z0, z1, z2, z3, z4]) rfl (by obtain ⟨nn, hX⟩ := HX.out; rw [hX]; exact ⟨HD.out.2.1, HD.out.2.2.1, _, _, _, _, _, _, _, _, _, rfl, HD.out.2.2.2⟩)
  · have dk : (k == 0) = false := by simpa using hk
    have HX := Lib.hid (show cpT (rnR tos) (.mk k i nm ls ks) D = ⟨1 + (cpL (rnR tos) ks k D 0).n, (cpL (rnR tos) ks k D 0).f, (cpL (rnR tos) ks k D 0).e, .mk k i nm ls (cpL (rnR tos) ks k D 0).ts⟩ from cpT_none (by simp only [rnR]; rw [if_neg hk]))
    obtain ⟨i0, hi, hz0, hz1, hz2⟩ := info_parts infoTm
    clear HT
    go_wp2_with fail
    go_loopw [10, 11] (fun s10 s11 wx => ∃ (j : Nat) (ts : List Tm) (us : List Value) (ea : Int) (sv : Value), sv = s10 ∧ j ≤ ks.length ∧ s11 = .int .i64 (j : Int) ∧ Hid (ts.length = j) ∧ Hid (er ea (cpL (rnR tos) (ks.drop j) k D j).e = (cpL (rnR tos) ks k D 0).e ∧ ts ++ (cpL (rnR tos) (ks.drop j) k D j).ts = (cpL (rnR tos) ks k D 0).ts) ∧ Hid (RS w pw B k i nm AL ls.length cl AK ks.length ck (er e0 ea) n ts us sv wx)) (fun _ s11 _ => ks.length - (intOf s11).toNat)
    case atStart => exact ⟨0, [], [], 0, _, rfl, Nat.zero_le _, rfl, Lib.hid rfl, Lib.hid ⟨er_zero _, rfl⟩, Lib.hid (by rw [er_zero_right]; exact HR0.out)⟩
    case round =>
      obtain ⟨j, ts, us, ea, sv, hsv, hj, rfl, hlen, HJ, HRS⟩ := hrel
      subst hsv
      clear HR0 y0 y1 y2 y3 y4
      obtain ⟨y0, y1, y2, y3, y4, f0, f1, f2, f3, f4⟩ := HRS.out.bx
      by_cases hjl : j < ks.length
      · obtain ⟨kb, ko, rfl, hkS, hkc⟩ := HKS.out (by omega)
        obtain ⟨c0, c1, c2, c3, c4, u0, u1, u2, u3, u4, hqt⟩ := hkc.at_ (List.getElem?_eq_getElem hjl)
        obtain ⟨qk, qi, qn, qAL, qnl, qcl, qAK, qnk, qck, hqe, _⟩ := hqt.open_
        simp only [Value.agg.injEq, Array.mk.injEq, List.cons.injEq, and_true] at hqe
        obtain ⟨rfl, rfl, rfl, rfl, rfl⟩ := hqe
        have hst := szL_mem (List.getElem_mem hjl)
        have hsz' := HSZ.out
        rw [szT] at hsz'
        have hb1 : bbN k j ≤ 1 := by unfold bbN; split <;> omega
        have HD := Lib.hid (drop_cp (rnR tos) (k := k) (d := D) hjl)
        have HBD := Lib.hid (show binI k (j : Int) = ((bbN k j : Nat) : Int) from binI_bind k j)
        have hqq := HQ.out.kid hjl
        have hIH := fun (e1 : Int) (W : World) (hW : TmP W (fun q => q < B ∧ q ≠ pw) ks[j] (.agg #[.int .i64 qk, .int .i64 qi, .string qn, .slice qAL qnl qcl, .slice qAK qnk qck])) (hV : IP W B pw AT tos) (hBW : B ≤ W.heap.size) (hk : WkS pw e1 n W) => IH.out ks[j] _ (D + bbN k j) B pw e1 n W (by omega) (by omega) hqq hW hV hBW hk
        have HIH := Lib.hid hIH
        have HQT := Lib.hid hqt
        have hdb : D + bbN k j ≤ 1000000 := by omega
        clear hst hsz' hqq hIH hqt
        generalize ks[j] = q at *
        generalize hbb : bbN k j = bb at *
        have wr2 : IntKind.i64.wrap ((D : Int) + (bb : Int)) = (D : Int) + (bb : Int) := wrap_in _ (by omega)
        clear hbb
        have HBe := Lib.hid (fun W => rbelow_any k j W)
        have hkb : kb < w.heap.size := by omega
        have HU := Lib.hid (And.intro u0 (And.intro u1 (And.intro u2 (And.intro u3 u4))))
        clear u0 u1 u2 u3 u4 hkc
        have HNX := Lib.hid (show ∀ (e1 : Int) (ts : List Tm) (us : List Value) (sv : Value) (W : World), RS w pw B k i nm AL ls.length cl (some ⟨kb, ko, none⟩) ks.length ck e1 n ts us sv W → W.cell? ⟨w.heap.size, 0, none⟩ = some (.int .i64 k) ∧ W.cell? ⟨w.heap.size, 4, none⟩ = some (.slice (some ⟨kb, ko, none⟩) ks.length ck) ∧ W.cell? ⟨kb, ko + j * 5, none⟩ = some (.int .i64 qk) ∧ W.cell? ⟨kb, ko + j * 5 + 1, none⟩ = some (.int .i64 qi) ∧ W.cell? ⟨kb, ko + j * 5 + 2, none⟩ = some (.string qn) ∧ W.cell? ⟨kb, ko + j * 5 + 3, none⟩ = some (.slice qAL qnl qcl) ∧ W.cell? ⟨kb, ko + j * 5 + 4, none⟩ = some (.slice qAK qnk qck) from fun e1 ts us sv W h => ⟨h.bx.x0, h.bx.x4, (h.kp.cell (p := ⟨kb, ko + j * 5, none⟩) hkb hkS.2).trans HU.out.1, (h.kp.cell (p := ⟨kb, ko + j * 5 + 1, none⟩) hkb hkS.2).trans HU.out.2.1, (h.kp.cell (p := ⟨kb, ko + j * 5 + 2, none⟩) hkb hkS.2).trans HU.out.2.2.1, (h.kp.cell (p := ⟨kb, ko + j * 5 + 3, none⟩) hkb hkS.2).trans HU.out.2.2.2.1, (h.kp.cell (p := ⟨kb, ko + j * 5 + 4, none⟩) hkb hkS.2).trans HU.out.2.2.2.2⟩)
        go_upto_region 13 with fail
        have hdr : RS w pw B k i nm AL ls.length cl (some ⟨kb, ko, none⟩) ks.length ck (er e0 ea) n ts us sv wr.drew := HRS.out.next hpw ((Kp.refl _ _).newP (Below.refl _ _).drew) (HRS.out.wk.next (Below.refl _ _).drew)
        have HR := Lib.hid hdr
        clear hdr
        have HI := Lib.hid (show ∀ (e1 : Int) (W : World), RS w pw B k i nm AL ls.length cl (some ⟨kb, ko, none⟩) ks.length ck e1 n ts us sv W → Calls Tryd.prog 42 #[.pointer (some ⟨pw, 0, none⟩), .agg #[.int .i64 qk, .int .i64 qi, .string qn, .slice qAL qnl qcl, .slice qAK qnk qck], .slice AT tos.length ct, .int .i64 ((D : Int) + (bb : Int))] W (RsP pw B e1 n (cpT (rnR tos) q (D + bb)) W) from fun e1 W h => by
          have h' := HIH.out e1 W (tmP_kp HQT.out h.kp (fun q h => h.2)) (HVS.out.kp h.kp hB) (by have := h.kp.size; omega) h.wk
          rw [Int.natCast_add] at h'
          exact h')
        have HA8 := Lib.hid (show ∀ (e1 : Int) (W : World) (ew : Ending) (w8 : World), RS w pw B k i nm AL ls.length cl (some ⟨kb, ko, none⟩) ks.length ck e1 n ts us sv W → RsP pw B e1 n (cpT (rnR tos) q (D + bb)) W ew w8 → ∃ rk ri rn rAL rnl rcl rAK rnk rck, ew = .returned (.agg #[.int .i64 rk, .int .i64 ri, .string rn, .slice rAL rnl rcl, .slice rAK rnk rck]) ∧ RS w pw B k i nm AL ls.length cl (some ⟨kb, ko, none⟩) ks.length ck (er e1 (cpT (rnR tos) q (D + bb)).e) n ts us sv w8 ∧ TmP w8 (fun q => (q < B ∨ w.heap.size + 2 ≤ q) ∧ q ≠ pw ∧ sv.ownBlock ≠ some q) (cpT (rnR tos) q (D + bb)).t (.agg #[.int .i64 rk, .int .i64 ri, .string rn, .slice rAL rnl rcl, .slice rAK rnk rck]) from fun e1 W ew w8 h h8 => by
          obtain ⟨hk8, hw8, rk, ri, rn, rAL, rnl, rcl, rAK, rnk, rck, rfl, ht8⟩ := h8
          refine ⟨rk, ri, rn, rAL, rnl, rcl, rAK, rnk, rck, rfl, h.next hpw hk8 hw8, TmP.mono (fun q hq _ => ⟨hq.1.imp id (fun h' => by have := h.br.lt; omega), hq.2, fun e => ?_⟩) _ _ ht8⟩
          rcases h.own.2 with ⟨hv, _⟩ | ⟨g, cap, cur, hv, hg, hh, _⟩
          · rw [hv] at e; simp [Value.ownBlock] at e
          · rw [hv] at e
            simp only [Value.ownBlock, Option.some.injEq] at e
            have := (Array.getElem?_eq_some_iff.1 hh).1
            rcases hq.1 with h' | h'
            · omega
            · omega)
        have HNX2 := Lib.hid (fun (e1 : Int) (W : World) (o : Obj) (h : RS w pw B k i nm AL ls.length cl (some ⟨kb, ko, none⟩) ks.length ck e1 n ts us sv W) => HNX.out e1 ts us sv (W.alloc o) (h.next hpw ((Kp.refl _ _).newP ((Below.refl _ _).alloc (Nat.le_refl _) o)) (h.wk.next ((Below.refl _ _).alloc (Nat.le_refl _) o))))
        have htl : ts.length < ks.length := by have := hlen.out; omega
        have hpB : B ≤ w.heap.size := hB
        clear y0 y1 y2 y3 y4 f0 f1 f2 f3 f4 HRS HIH
        refine wp_region_held_drew (S := fun w' => w'.cell? ⟨w.heap.size, 0, none⟩ = some (.int .i64 k) ∧ w'.cell? ⟨w.heap.size, 4, none⟩ = some (.slice (some ⟨kb, ko, none⟩) ks.length ck) ∧ w'.cell? ⟨kb, ko + j * 5, none⟩ = some (.int .i64 qk) ∧ w'.cell? ⟨kb, ko + j * 5 + 1, none⟩ = some (.int .i64 qi) ∧ w'.cell? ⟨kb, ko + j * 5 + 2, none⟩ = some (.string qn) ∧ w'.cell? ⟨kb, ko + j * 5 + 3, none⟩ = some (.slice qAL qnl qcl) ∧ w'.cell? ⟨kb, ko + j * 5 + 4, none⟩ = some (.slice qAK qnk qck)) (by kernel_rfl) (HNX.out _ _ _ _ _ HR.out) ?_
        intro hS
        refine wpAnyH_take (i := 0) (oi := { dst := some 62, op := Op.move (Operand.tmp 10), type := 23, pos := "ref.go:129", after := #[], guard := none }) (v := sv) rfl (by kernel_rfl) (by kernel_rfl) (by kernel_rfl) (fun _ _ _ h => h) (Or.inl ⟨by rfl, ?_⟩) hS ?_
        · intro w9 hSw
          obtain ⟨s0, s1, s2, s3, s4, s5, s6⟩ := hSw
          go_simp
        simp only [Act.put, List.setIfInBounds_toArray, List.set_cons_zero, List.set_cons_succ]
        refine wpAnyH_take (i := 1) (oi := { dst := some 63, op := Op.move (Operand.tmp 0), type := 61, pos := "ref.go:129", after := #[], guard := none }) (v := .pointer (some ⟨pw, 0, none⟩)) rfl (by kernel_rfl) (by kernel_rfl) (by kernel_rfl) (fun _ _ _ h => h) (Or.inl ⟨by rfl, ?_⟩) hS ?_
        · intro w9 hSw
          obtain ⟨s0, s1, s2, s3, s4, s5, s6⟩ := hSw
          go_simp
        simp only [Act.put, List.setIfInBounds_toArray, List.set_cons_zero, List.set_cons_succ]
        refine wpAnyH_take (i := 2) (oi := { dst := some 64, op := Op.fieldAddr 25 (Operand.tmp 5) 4, type := 0, pos := "ref.go:129", after := #[], guard := none }) (v := .pointer (some ⟨w.heap.size, 4, none⟩)) rfl (by kernel_rfl) (by kernel_rfl) (by kernel_rfl) (fun _ _ _ h => h) (Or.inl ⟨by rfl, ?_⟩) hS ?_
        · intro w9 hSw
          obtain ⟨s0, s1, s2, s3, s4, s5, s6⟩ := hSw
          go_simp
        simp only [Act.put, List.setIfInBounds_toArray, List.set_cons_zero, List.set_cons_succ]
        refine wpAnyH_take (i := 3) (oi := { dst := some 65, op := Op.load 23 (Operand.tmp 64), type := 23, pos := "ref.go:129", after := #[{ on := 2, ground := Ground.data }], guard := none }) (v := .slice (some ⟨kb, ko, none⟩) ks.length ck) rfl (by kernel_rfl) (by kernel_rfl) (by kernel_rfl) (fun _ _ _ h => h) (Or.inl ⟨by rfl, ?_⟩) hS ?_
        · intro w9 hSw
          obtain ⟨s0, s1, s2, s3, s4, s5, s6⟩ := hSw
          go_simp
        simp only [Act.put, List.setIfInBounds_toArray, List.set_cons_zero, List.set_cons_succ]
        refine wpAnyH_take (i := 4) (oi := { dst := some 66, op := Op.move (Operand.tmp 11), type := 3, pos := "ref.go:129", after := #[], guard := none }) (v := .int .i64 (j : Int)) rfl (by kernel_rfl) (by kernel_rfl) (by kernel_rfl) (fun _ _ _ h => h) (Or.inl ⟨by rfl, ?_⟩) hS ?_
        · intro w9 hSw
          obtain ⟨s0, s1, s2, s3, s4, s5, s6⟩ := hSw
          go_simp
        simp only [Act.put, List.setIfInBounds_toArray, List.set_cons_zero, List.set_cons_succ]
        refine wpAnyH_take (i := 5) (oi := { dst := some 67, op := Op.indexAddr 23 (Operand.tmp 65) (Operand.tmp 66), type := 0, pos := "ref.go:129", after := #[{ on := 3, ground := Ground.data }, { on := 4, ground := Ground.data }], guard := none }) (v := .pointer (some ⟨kb, ko + j * 5, none⟩)) rfl (by kernel_rfl) (by kernel_rfl) (by kernel_rfl) (fun _ _ _ h => h) (Or.inl ⟨by rfl, ?_⟩) hS ?_
        · intro w9 hSw
          obtain ⟨s0, s1, s2, s3, s4, s5, s6⟩ := hSw
          go_simp
        simp only [Act.put, List.setIfInBounds_toArray, List.set_cons_zero, List.set_cons_succ]
        refine wpAnyH_take (i := 6) (oi := { dst := some 68, op := Op.load 25 (Operand.tmp 67), type := 25, pos := "ref.go:129", after := #[{ on := 5, ground := Ground.data }], guard := none }) (v := .agg #[.int .i64 qk, .int .i64 qi, .string qn, .slice qAL qnl qcl, .slice qAK qnk qck]) rfl (by kernel_rfl) (by kernel_rfl) (by kernel_rfl) (fun _ _ _ h => h) (Or.inl ⟨by rfl, ?_⟩) hS ?_
        · intro w9 hSw
          obtain ⟨s0, s1, s2, s3, s4, s5, s6⟩ := hSw
          go_simp
        simp only [Act.put, List.setIfInBounds_toArray, List.set_cons_zero, List.set_cons_succ]
        refine wpAnyH_take (i := 7) (oi := { dst := some 69, op := Op.move (Operand.tmp 2), type := 40, pos := "ref.go:129", after := #[], guard := none }) (v := .slice AT tos.length ct) rfl (by kernel_rfl) (by kernel_rfl) (by kernel_rfl) (fun _ _ _ h => h) (Or.inl ⟨by rfl, ?_⟩) hS ?_
        · intro w9 hSw
          obtain ⟨s0, s1, s2, s3, s4, s5, s6⟩ := hSw
          go_simp
        simp only [Act.put, List.setIfInBounds_toArray, List.set_cons_zero, List.set_cons_succ]
        refine wpAnyH_take (i := 8) (oi := { dst := some 70, op := Op.move (Operand.tmp 3), type := 3, pos := "ref.go:129", after := #[], guard := none }) (v := .int .i64 (D : Int)) rfl (by kernel_rfl) (by kernel_rfl) (by kernel_rfl) (fun _ _ _ h => h) (Or.inl ⟨by rfl, ?_⟩) hS ?_
        · intro w9 hSw
          obtain ⟨s0, s1, s2, s3, s4, s5, s6⟩ := hSw
          go_simp
        simp only [Act.put, List.setIfInBounds_toArray, List.set_cons_zero, List.set_cons_succ]
        refine wpAnyH_take (i := 9) (oi := { dst := some 71, op := Op.fieldAddr 25 (Operand.tmp 5) 0, type := 0, pos := "ref.go:129", after := #[], guard := none }) (v := .pointer (some ⟨w.heap.size, 0, none⟩)) rfl (by kernel_rfl) (by kernel_rfl) (by kernel_rfl) (fun _ _ _ h => h) (Or.inl ⟨by rfl, ?_⟩) hS ?_
        · intro w9 hSw
          obtain ⟨s0, s1, s2, s3, s4, s5, s6⟩ := hSw
          go_simp
        simp only [Act.put, List.setIfInBounds_toArray, List.set_cons_zero, List.set_cons_succ]
        refine wpAnyH_take (i := 10) (oi := { dst := some 72, op := Op.load 3 (Operand.tmp 71), type := 3, pos := "ref.go:129", after := #[{ on := 9, ground := Ground.data }], guard := none }) (v := .int .i64 k) rfl (by kernel_rfl) (by kernel_rfl) (by kernel_rfl) (fun _ _ _ h => h) (Or.inl ⟨by rfl, ?_⟩) hS ?_
        · intro w9 hSw
          obtain ⟨s0, s1, s2, s3, s4, s5, s6⟩ := hSw
          go_simp
        simp only [Act.put, List.setIfInBounds_toArray, List.set_cons_zero, List.set_cons_succ]
        refine wpAnyH_take (i := 11) (oi := { dst := some 73, op := Op.move (Operand.tmp 11), type := 3, pos := "ref.go:129", after := #[], guard := none }) (v := .int .i64 (j : Int)) rfl (by kernel_rfl) (by kernel_rfl) (by kernel_rfl) (fun _ _ _ h => h) (Or.inl ⟨by rfl, ?_⟩) hS ?_
        · intro w9 hSw
          obtain ⟨s0, s1, s2, s3, s4, s5, s6⟩ := hSw
          go_simp
        simp only [Act.put, List.setIfInBounds_toArray, List.set_cons_zero, List.set_cons_succ]
        refine wpAnyH_ready (rs := [12]) (by kernel_rfl) (List.cons_ne_nil _ _) ?_
        refine AllReadyH.cons (o := { dst := some 74, op := Op.call { callee := Callee.value (Operand.func 59), args := #[Operand.tmp 72, Operand.tmp 73], argTypes := #[3, 3] }, type := 3, pos := "ref.go:129", after := #[{ on := 10, ground := Ground.data }, { on := 11, ground := Ground.data }], guard := none }) rfl (fun K hK => ?_) AllReadyH.nil
        go_simp
        go_at_call 59
        refine (HBe.out _).mono ?_
        rw [HBD.out]
        rintro e w7 ⟨rfl, hw7⟩
        have HR := Lib.hid (show RS w pw B k i nm AL ls.length cl (some ⟨kb, ko, none⟩) ks.length ck (er e0 ea) n ts us sv w7 from by rw [hw7]; exact HR.out)
        clear hw7
        try go_simp
        refine hK _ _ (HNX.out _ _ _ _ _ HR.out) ?_
        clear hS
        intro hS
        clear hK K
        refine wpAnyH_take (i := 13) (oi := { dst := some 75, op := Op.binOp BinOp.add 3 (Operand.tmp 70) (Operand.tmp 74) 3, type := 3, pos := "ref.go:129", after := #[{ on := 8, ground := Ground.data }, { on := 12, ground := Ground.data }], guard := none }) (v := .int .i64 ((D : Int) + (bb : Int))) rfl (by kernel_rfl) (by kernel_rfl) (by kernel_rfl) (fun _ _ _ h => h) (Or.inl ⟨by rfl, ?_⟩) hS ?_
        · intro w9 hSw
          obtain ⟨s0, s1, s2, s3, s4, s5, s6⟩ := hSw
          go_simp
        simp only [Act.put, List.setIfInBounds_toArray, List.set_cons_zero, List.set_cons_succ]
        refine wpAnyH_ready (rs := [14]) (by kernel_rfl) (List.cons_ne_nil _ _) ?_
        refine AllReadyH.cons (o := { dst := some 76, op := Op.call { callee := Callee.value (Operand.func 42), args := #[Operand.tmp 63, Operand.tmp 68, Operand.tmp 69, Operand.tmp 75], argTypes := #[61, 25, 40, 3] }, type := 25, pos := "ref.go:129", after := #[{ on := 1, ground := Ground.data }, { on := 6, ground := Ground.data }, { on := 7, ground := Ground.data }, { on := 13, ground := Ground.data }, { on := 12, ground := Ground.chain }], guard := none }) rfl (fun K hK => ?_) AllReadyH.nil
        go_simp
        go_at_call 42
        refine (HI.out _ _ HR.out).mono ?_
        intro e w8 h8
        obtain ⟨rk, ri, rn, rAL, rnl, rcl, rAK, rnk, rck, rfl, hR8, ht8⟩ := HA8.out _ _ _ _ HR.out h8
        have HR := Lib.hid hR8
        have HT8 := Lib.hid ht8
        clear h8 hR8 ht8
        try go_simp
        refine hK _ _ (HNX.out _ _ _ _ _ HR.out) ?_
        clear hS
        intro hS
        clear hK K
        refine wpAnyH_ready (rs := [15]) (by kernel_rfl) (List.cons_ne_nil _ _) ?_
        refine AllReadyH.cons (o := { dst := some 77, op := Op.buildSlice 23 1 #[(0, Operand.tmp 76)], type := 23, pos := "ref.go:129", after := #[{ on := 14, ground := Ground.data }], guard := none }) rfl (fun K hK => ?_) AllReadyH.nil
        go_simp
        refine hK _ _ (HNX2.out _ _ _ HR.out) ?_
        clear hS
        intro hS
        clear hK K
        refine wpAnyH_ready (rs := [16]) (by kernel_rfl) (List.cons_ne_nil _ _) ?_
        refine AllReadyH.cons (o := { dst := some 78, op := Op.call { callee := Callee.builtin Builtin.append, args := #[Operand.tmp 62, Operand.tmp 77], argTypes := #[23, 23] }, type := 23, pos := "ref.go:129", after := #[{ on := 0, ground := Ground.data }, { on := 15, ground := Ground.data }, { on := 14, ground := Ground.chain }], guard := none }) rfl (fun K hK => ?_) AllReadyH.nil
        refine step_append_lies _ rfl (.tmp 62) (.tmp 77) 23 rfl (w.heap.size + 2) 25 i0 (.agg #[.int .i64 0, .int .i64 0, .string ⟨#[]⟩, .slice none 0 0, .slice none 0 0]) 5 80 Tryd.underlying23 hi hz0 hz1 hz2 rfl (by decide) sv ts.length us (by simp [Act.eval]) (World.ownsRow.alloc HR.out.own _) ⟨w8.heap.size, 0, none⟩ 1 1 [.int .i64 rk, .int .i64 ri, .string rn, .slice rAL rnl rcl, .slice rAK rnk rck] (by simp [Act.eval]) rfl ?qn ?q1 (by decide) ?qm ?qb ?qs _ rfl ?_
        case qn => intro m u hu; rw [Addr.add_lit, Nat.zero_add, cell_of_row _ _ m _ _ _ (World.alloc_heap_new w8 (.cells #[.int .i64 rk, .int .i64 ri, .string rn, .slice rAL rnl rcl, .slice rAK rnk rck] 25))]; simpa using hu
        case q1 => intro u hu; simp at hu; rcases hu with rfl | rfl | rfl | rfl | rfl <;> rfl
        case qm => unfold maxLen; omega
        case qb => omega
        case qs => have := HR.out.kp.size; have := HR.out.br.lt; simp; omega
        intro g6 cap6 w9 hown hgrow hwhere hlt2
        have HR := Lib.hid (HR.out.grow (by omega) (by omega) HT8.out ((Below.refl _ _).alloc (Nat.le_refl _) _) hown hgrow hwhere).1
        clear hown hgrow hwhere hlt2 HT8
        refine hK _ _ (HNX.out _ _ _ _ _ HR.out) ?_
        clear hS
        intro hS
        clear hK K
        refine wpAnyH_take (i := 17) (oi := { dst := some 10, op := Op.assign (Operand.tmp 78), type := 23, pos := "ref.go:129", after := #[{ on := 16, ground := Ground.data }, { on := 16, ground := Ground.chain }, { on := 0, ground := Ground.phase }, { on := 1, ground := Ground.phase }, { on := 2, ground := Ground.phase }, { on := 3, ground := Ground.phase }, { on := 4, ground := Ground.phase }, { on := 5, ground := Ground.phase }, { on := 6, ground := Ground.phase }, { on := 7, ground := Ground.phase }, { on := 8, ground := Ground.phase }, { on := 9, ground := Ground.phase }, { on := 10, ground := Ground.phase }, { on := 11, ground := Ground.phase }, { on := 12, ground := Ground.phase }, { on := 13, ground := Ground.phase }, { on := 14, ground := Ground.phase }, { on := 15, ground := Ground.phase }, { on := 16, ground := Ground.phase }], guard := none }) (v := .slice (some ⟨g6, 0, none⟩) (ts.length + 1) cap6) rfl (by kernel_rfl) (by kernel_rfl) (by kernel_rfl) (fun _ _ _ h => h) (Or.inl ⟨by rfl, ?_⟩) hS ?_
        · intro w9 hSw
          obtain ⟨s0, s1, s2, s3, s4, s5, s6⟩ := hSw
          go_simp
        simp only [Act.put, List.setIfInBounds_toArray, List.set_cons_zero, List.set_cons_succ]
        refine wpAnyH_done (by kernel_rfl) ?_ _
        have HLN := Lib.hid (show (ts ++ [(cpT (rnR tos) q (D + bb)).t]).length = j + 1 by rw [List.length_append, hlen.out]; rfl)
        have HJN : Hid (er (er ea (cpT (rnR tos) q (D + bb)).e) (cpL (rnR tos) (ks.drop (j + 1)) k D (j + 1)).e = (cpL (rnR tos) ks k D 0).e ∧ (ts ++ [(cpT (rnR tos) q (D + bb)).t]) ++ (cpL (rnR tos) (ks.drop (j + 1)) k D (j + 1)).ts = (cpL (rnR tos) ks k D 0).ts) := Lib.hid ⟨by rw [er_assoc, ← HD.out.1]; exact HJ.out.1, by rw [List.append_assoc, List.singleton_append, ← HD.out.2]; exact HJ.out.2⟩
        have hrn := HR.out
        rw [er_assoc] at hrn
        have HRN := Lib.hid hrn
        clear hS hrn
        go_wp2_with fail
        go_roundw
        case rel => exact ⟨j + 1, _, _, _, _, rfl, hjl, by go_num, HLN, HJN, HRN⟩
        case measure => simp [intOf]; omega
      · have hji : decide ((j : Int) < (ks.length : Int)) = false := by rw [decide_eq_false_iff_not]; omega
        have hjj := HJ.out
        rw [List.drop_of_length_le (by omega), cpL] at hjj
        have HE1 := Lib.hid (show (cpL (rnR tos) ks k D 0).e = ea by rw [← hjj.1]; exact er_zero_right ea)
        have HE2 := Lib.hid (show (cpL (rnR tos) ks k D 0).ts = ts by rw [← hjj.2]; exact List.append_nil ts)
        have htl : ts.length ≤ ks.length := by have := hlen.out; omega
        obtain ⟨svA, svc, rfl⟩ : ∃ A c, sv = .slice A ts.length c := by
          rcases HRS.out.own.2 with ⟨rfl, h0⟩ | ⟨g, cap, cur, rfl, _⟩
          · exact ⟨none, 0, by rw [h0]⟩
          · exact ⟨_, _, rfl⟩
        have hK := HRS.out.kids hpw hB
        have hN := hK.node hpw (by omega) HLS.out
        have hd := hK.done hpw hB hN
        unfold set5 at hd
        simp only [Nat.zero_add] at hd
        have HD := Lib.hid hd
        have HK := Lib.hid hK
        clear hd hN hK hjj HRS hlen
        go_upto_region 15 with fail
        generalize wr.setCell ⟨w.heap.size, 4, none⟩ (.slice svA ts.length svc) = w1 at HK HD ⊢
        clear y0 y1 y2 y3 y4 f0 f1 f2 f3 f4
        obtain ⟨y0, y1, y2, y3, y4, _, _, _, _, _⟩ := HK.out.bx
        obtain ⟨z0, z1, z2, z3, z4, g0, g1, g2, g3, g4⟩ := HK.out.br
        have hlt1 := HK.out.br.lt
        go_wp2_with fail
        generalize (((((w1.setCell ⟨w.heap.size + 1, 0, none⟩ (.int .i64 k)).setCell ⟨w.heap.size + 1, 1, none⟩ (.int .i64 i)).setCell ⟨w.heap.size + 1, 2, none⟩ (.string nm)).setCell ⟨w.heap.size + 1, 3, none⟩ (.slice AL ls.length cl)).setCell ⟨w.heap.size + 1, 4, none⟩ (.slice svA ts.length svc)) = w3 at HD ⊢
        clear z0 z1 z2 z3 z4 g0 g1 g2 g3 g4
        obtain ⟨z0, z1, z2, z3, z4, g0, g1, g2, g3, g4⟩ := HD.out.1
        exact bodyPost_ret (v := .agg #[.int .i64 k, .int .i64 i, .string nm, .slice AL ls.length cl, .slice svA ts.length svc]) (by simp [results, Tryd.results42, go_sem, z0, z1, z2, z3, z4]) rfl (by rw [HX.out]; refine ⟨HD.out.2.1, ?_, _, _, _, _, _, _, _, _, _, rfl, ?_⟩; (show WkS pw (er e0 (cpL (rnR tos) ks k D 0).e) n w3; rw [HE1.out]; exact HD.out.2.2.1); (show TmP w3 _ (.mk k i nm ls (cpL (rnR tos) ks k D 0).ts) _; rw [HE2.out]; exact HD.out.2.2.2))
end Go.Proofs.YtobaeeobfcffoaaDoor
