/- The closure of Abstract: the walk. -/
import Derived.Test.YtobaeeobfcffoaaDoorAbi
import Derived.Test.YtobaeeobfcffoaaDoorPsm
namespace Go.Proofs.YtobaeeobfcffoaaDoor
open Go.RowKit
def absP (part : Tm) (t : Tm) (d : Nat) : Option Ou := if EX part d = true ∧ sameT t (PT part d) = true then some ⟨1, 1, big d, vr d⟩ else shR 1 0 t d
theorem infoSp : (Tryd.prog.info? 76).map (fun i => (i.zero, i.size, i.bytes)) = some (some (.agg #[.int .i64 0, .int .i64 0, .string ⟨#[]⟩, .slice none 0 0, .slice none 0 0, .bool false]), 6, 88) := by kernel_rfl
theorem wrap_succ (x : Int) : IntKind.i64.wrap (IntKind.i64.wrap x + 1) = IntKind.i64.wrap (x + 1) := by
  rw [IntKind.wrap_i64, IntKind.wrap_i64, IntKind.wrap_i64]
  generalize hq : (9223372036854775808 : Int) = q
  have h2 : (18446744073709551616 : Int) = 2 * q := by omega
  rw [h2]
  have e1 : (x + q) % (2 * q) - q + 1 + q = (x + q) % (2 * q) + 1 := by omega
  have e2 : x + 1 + q = (x + q) + 1 := by omega
  rw [e1, e2, Int.emod_add_emod]
namespace AbC
/-- What the closure of Abstract reads. -/
structure Cap (C : AbC) (pq ps pf1 pg1 : Nat) (k i : Int) (nm : ByteArray) (AL : Option Addr) (nl cl : Nat) (AK : Option Addr) (nk ck : Nat) : Prop where
  oq : C.Old pq
  os : C.Old ps
  o1 : C.Old pf1
  o2 : C.Old pg1
  q0 : C.W.cell? ⟨pq, 0, none⟩ = some (.int .i64 k)
  q1 : C.W.cell? ⟨pq, 1, none⟩ = some (.int .i64 i)
  q2 : C.W.cell? ⟨pq, 2, none⟩ = some (.string nm)
  q3 : C.W.cell? ⟨pq, 3, none⟩ = some (.slice AL nl cl)
  q4 : C.W.cell? ⟨pq, 4, none⟩ = some (.slice AK nk ck)
  s0 : C.W.cell? ⟨ps, 0, none⟩ = some (.func (.func 56) #[] #[.pointer (some ⟨pf1, 0, none⟩), .pointer (some ⟨pg1, 0, none⟩)])
  c1 : C.W.cell? ⟨pf1, 0, none⟩ = some (.int .i64 0)
  c2 : C.W.cell? ⟨pg1, 0, none⟩ = some (.int .i64 1)
  tm : TmP C.W C.Old C.part (.agg #[.int .i64 k, .int .i64 i, .string nm, .slice AL nl cl, .slice AK nk ck])
  sz : szT C.part ≤ 1000000
  qv : AllT Qv C.part 0
theorem oc {C : AbC} {d n f : Nat} {e : Int} {w : World} (h : C.Inv d n f e w) {q j : Nat} {v : Value} (ho : C.Old q) (hv : C.W.cell? ⟨q, j, none⟩ = some v) : w.cell? ⟨q, j, none⟩ = some v := (World.cell?_of_block (w := C.W) (a := ⟨q, j, none⟩) (h.2.2.2.1 q ho)).trans hv
end AbC
theorem ownsRow_below {w w' : World} {base : Nat} {e : TypeId} {size : Nat} {v : Value} {n : Nat} {xs : List Value} (h : w.ownsRow base e size v n xs) (hb : Below w.heap.size w w') : w'.ownsRow base e size v n xs :=
  ⟨h.1, h.2.imp id fun ⟨g, cap, cur, hv, hg, hh, r⟩ => ⟨g, cap, cur, hv, hg, (hb.block g (Array.getElem?_eq_some_iff.1 hh).1).trans hh, r⟩⟩
set_option maxRecDepth 100000 in
set_option maxHeartbeats 4000000 in
theorem abs1_any {C : AbC} (hC : C.Ok) {pq ps pf1 pg1 : Nat} {pk pi : Int} {pnm : ByteArray} {pAL : Option Addr} {pnl pcl : Nat} {pAK : Option Addr} {pnk pck : Nat} (hcap : C.Cap pq ps pf1 pg1 pk pi pnm pAL pnl pcl pAK pnk pck)
    {d n f : Nat} {e0 : Int} {w : World} (hi : C.Inv d n f e0 w) (hn : n ≤ 4096) (hd : d ≤ 1000000000)
    (k i : Int) (nm : ByteArray) (AL : Option Addr) (cl : Nat) (AK : Option Addr) (ck : Nat) (ls : List (Int × List (Int × Int))) (ks : List Tm) (hi0 : k = 0 → 0 ≤ i ∧ i ≤ 1000000000) (hsz : szT (.mk k i nm ls ks) ≤ 1000000000)
    (htm : TmP w C.Old (.mk k i nm ls ks) (.agg #[.int .i64 k, .int .i64 i, .string nm, .slice AL ls.length cl, .slice AK ks.length ck])) :
    Calls Tryd.prog 43 #[.pointer (some ⟨C.pb, 0, none⟩), .agg #[.int .i64 k, .int .i64 i, .string nm, .slice AL ls.length cl, .slice AK ks.length ck], .int .i64 d, .pointer (some ⟨C.pp, 0, none⟩), .pointer (some ⟨pq, 0, none⟩), .pointer (some ⟨C.pf, 0, none⟩), .pointer (some ⟨ps, 0, none⟩)] w
      (fun e w' => RepPost C.Old C.Inv C.M d n f e0 w e w' (absP C.part (.mk k i nm ls ks) d)) := by
  have hB := AbC.bld hC
  have HK0 := Lib.hid (Kp.new hB (Kp.refl C.M w) hi ((Below.refl _ _).alloc (Nat.le_refl _) (.cells #[.int .i64 k, .int .i64 i, .string nm, .slice AL ls.length cl, .slice AK ks.length ck] 25)))
  have HX0 := Lib.hid (Bx.new hB hi (.int .i64 k) (.int .i64 i) (.string nm) (.slice AL ls.length cl) (.slice AK ks.length ck))
  have HK := Lib.hid (Kp.new hB HK0.out.1 HK0.out.2 ((Below.refl _ _).alloc (Nat.le_refl _) (.cells #[.int .i64 0, .int .i64 0, .string ⟨#[]⟩, .slice none 0 0, .slice none 0 0] 25)))
  have hk2 := (Kp.new hB (Kp.refl C.M _) HK0.out.2 ((Below.refl _ _).alloc (Nat.le_refl _) (.cells #[.int .i64 0, .int .i64 0, .string ⟨#[]⟩, .slice none 0 0, .slice none 0 0] 25))).1
  have HX := Lib.hid (HX0.out.next hk2)
  have HY := Lib.hid (Bx.new hB HK0.out.2 (.int .i64 0) (.int .i64 0) (.string ⟨#[]⟩) (.slice none 0 0) (.slice none 0 0))
  simp only [World.size_alloc] at HY
  have HT := Lib.hid (HK.out.1.old (fun q h hm => (hB.lt hi hm).2 h) htm)
  have HB := Lib.hid hB
  have HC := Lib.hid hC
  have HCP := Lib.hid hcap
  generalize hr : absP C.part (.mk k i nm ls ks) d = r
  have HRR := Lib.hid hr
  clear hr hi hB HK0 HX0 hcap hC htm hk2
  go_enter Tryd.func43, Tryd.ntmps43
  generalize hw1 : ((w.alloc (.cells #[.int .i64 k, .int .i64 i, .string nm, .slice AL ls.length cl, .slice AK ks.length ck] 25)).alloc (.cells #[.int .i64 0, .int .i64 0, .string ⟨#[]⟩, .slice none 0 0, .slice none 0 0] 25)) = w1 at HK HX HY HT
  have HW1 := Lib.hid hw1
  clear hw1
  go_upto_region 1 with fail
  rw [HW1.out]
  obtain ⟨_, _, _, _, L, hdL, v, us, hv, hfz, ho, hel⟩ := HK.out.2
  have HO := Lib.hid ho
  have HEL := Lib.hid hel
  have hv0 := hv
  obtain ⟨A1, c1, rfl⟩ : ∃ A1 c1, v = .slice A1 L c1 := by
    rcases ho.2 with ⟨rfl, h0⟩ | ⟨g, cap, cur, rfl, _⟩
    · exact ⟨none, 0, by rw [h0]⟩
    · exact ⟨_, _, rfl⟩
  clear ho hel
  have g0 := AbC.oc HK.out.2 HCP.out.oq HCP.out.q0
  have g1 := AbC.oc HK.out.2 HCP.out.oq HCP.out.q1
  have g2 := AbC.oc HK.out.2 HCP.out.oq HCP.out.q2
  have g3 := AbC.oc HK.out.2 HCP.out.oq HCP.out.q3
  have g4 := AbC.oc HK.out.2 HCP.out.oq HCP.out.q4
  by_cases hdl : d = L
  case' pos =>
    have hb : ((d : Int) == (d : Int)) = true := by simp
    subst hdl
    have hsh := sshiftS_any C.part (.agg #[.int .i64 pk, .int .i64 pi, .string pnm, .slice pAL pnl pcl, .slice pAK pnk pck]) (d : Int) 0 C.Old w1 (TmP.keep (fun p hp => World.cell?_of_block (w := C.W) (HK.out.2.2.2.2.1 _ hp)) _ _ HCP.out.tm) (fun q h => HB.out.old HK.out.2 h) HCP.out.sz HCP.out.qv (by omega)
    have HSH := Lib.hid hsh
    clear hsh
    go_wp2_with fail
    refine HSH.out.mono ?_
    rintro e w2 ⟨hb2, k9, i9, n9, AL9, nl9, cl9, AK9, nk9, ck9, rfl, ht9⟩
    have hEX : (shE (d : Int) 0 C.part == 0) = EX C.part d := by unfold EX; rfl
    have HEX := Lib.hid hEX
    have hv2 := (hb2.cell (p := ⟨C.pp, 0, none⟩) (World.block_lt_of_cell? w1 _ hv)).trans hv
    have hppl : C.pp < w2.heap.size := World.block_lt_of_cell? w2 _ hv2
    have HB2 := Lib.hid hb2
    have HT9 := Lib.hid ht9
    clear hb2 ht9 hEX
    have ho2 := ownsRow_below HO.out HB2.out
    have HO3 := Lib.hid (World.ownsRow.alloc (World.ownsRow.alloc ho2 (.cells #[.int .i64 k9, .int .i64 i9, .string n9, .slice AL9 nl9 cl9, .slice AK9 nk9 ck9] 25)) (.cells #[.int .i64 k9, .int .i64 i9, .string n9, .slice AL9 nl9 cl9, .slice AK9 nk9 ck9, .bool (EX C.part d)] 76))
    obtain ⟨j0, hji, hjz0, hjz1, hjz2⟩ := info_parts infoSp
    have hWs : C.W.heap.size + 4 ≤ w2.heap.size := by have := HK.out.2.2.2.1; have := HB2.out.size; omega
    clear ho2
    go_upto_region 3 with fail
    have hEX := HEX.out
    go_wp2_with (at_builtin; refine wpList_append_lies _ rfl _ _ 74 rfl (C.W.heap.size + 4) 76 j0 (.agg #[.int .i64 0, .int .i64 0, .string ⟨#[]⟩, .slice none 0 0, .slice none 0 0, .bool false]) 6 88 Tryd.underlying74 hji hjz0 hjz1 hjz2 rfl (by decide) _ _ _ rfl HO3.out ⟨w2.heap.size + 1, 0, none⟩ 1 1 [.int .i64 k9, .int .i64 i9, .string n9, .slice AL9 nl9 cl9, .slice AK9 nk9 ck9, .bool (EX C.part d)] rfl ?qc1 ?qc2 ?qc3 (by decide) ?qc4 ?qc5 ?qc6 _ rfl ?_)
    case qc1 => rfl
    case qc2 =>
      intro j u hj
      rw [Addr.add_lit, Nat.zero_add]
      have hrow := World.alloc_heap_new (w2.alloc (.cells #[.int .i64 k9, .int .i64 i9, .string n9, .slice AL9 nl9 cl9, .slice AK9 nk9 ck9] 25)) (.cells #[.int .i64 k9, .int .i64 i9, .string n9, .slice AL9 nl9 cl9, .slice AK9 nk9 ck9, .bool (EX C.part d)] 76)
      rw [show (w2.alloc (.cells #[.int .i64 k9, .int .i64 i9, .string n9, .slice AL9 nl9 cl9, .slice AK9 nk9 ck9] 25)).heap.size = w2.heap.size + 1 by simp] at hrow
      rw [cell_of_row _ _ j _ _ _ hrow]
      simpa using hj
    case qc3 => intro u hu; simp at hu; rcases hu with rfl | rfl | rfl | rfl | rfl | rfl <;> rfl
    case qc4 => unfold maxLen; omega
    case qc5 => omega
    case qc6 => simp; omega
    intro g6 cap6 w6 hown hgr hat hlt6
    have hb5 : Below w1.heap.size w1 ((w2.alloc (.cells #[.int .i64 k9, .int .i64 i9, .string n9, .slice AL9 nl9 cl9, .slice AK9 nk9 ck9] 25)).alloc (.cells #[.int .i64 k9, .int .i64 i9, .string n9, .slice AL9 nl9 cl9, .slice AK9 nk9 ck9, .bool (EX C.part d)] 76)) := (HB2.out.alloc HB2.out.size _).alloc (by have := HB2.out.size; simp; omega) _
    have ht5 : TmP ((w2.alloc (.cells #[.int .i64 k9, .int .i64 i9, .string n9, .slice AL9 nl9 cl9, .slice AK9 nk9 ck9] 25)).alloc (.cells #[.int .i64 k9, .int .i64 i9, .string n9, .slice AL9 nl9 cl9, .slice AK9 nk9 ck9, .bool (EX C.part d)] 76)) (fun q => C.Old q ∨ w1.heap.size ≤ q) (PT C.part d) (.agg #[.int .i64 k9, .int .i64 i9, .string n9, .slice AL9 nl9 cl9, .slice AK9 nk9 ck9]) := by
      have h25 : Below w2.heap.size w2 ((w2.alloc (.cells #[.int .i64 k9, .int .i64 i9, .string n9, .slice AL9 nl9 cl9, .slice AK9 nk9 ck9] 25)).alloc (.cells #[.int .i64 k9, .int .i64 i9, .string n9, .slice AL9 nl9 cl9, .slice AK9 nk9 ck9, .bool (EX C.part d)] 76)) := ((Below.refl _ _).alloc (Nat.le_refl _) _).alloc (by simp) _
      exact TmP.mono (fun q h _ => h.1) _ _ (TmP.keep (S := fun q => (C.Old q ∨ w1.heap.size ≤ q) ∧ q < w2.heap.size) (fun p hp => h25.cell hp.2) _ _ (TmP.mono (fun q h hl => ⟨h, hl⟩) _ _ HT9.out))
    have happ := AbC.app HC.out HK.out.2 hv HO.out hb5 (d' := d + 1) hown hgr (by simpa using hat) ht5 (by omega)
    have h6v : w6.cell? ⟨C.pp, 0, none⟩ = some (.slice A1 d c1) ∧ w6.frozen? ⟨C.pp, 0, none⟩ = false := by
      have hlt : C.pp < ((w2.alloc (.cells #[.int .i64 k9, .int .i64 i9, .string n9, .slice AL9 nl9 cl9, .slice AK9 nk9 ck9] 25)).alloc (.cells #[.int .i64 k9, .int .i64 i9, .string n9, .slice AL9 nl9 cl9, .slice AK9 nk9 ck9, .bool (EX C.part d)] 76)).heap.size := by simp; omega
      have hne : some C.pp ≠ (Value.slice A1 d c1).ownBlock := by
        rcases HO.out.2 with ⟨e', _⟩ | ⟨g', cap', cur', e', hbb, _⟩
        · injection e' with e' _ _; rw [e']; simp [Value.ownBlock]
        · injection e' with e' _ _
          rw [e']
          simp only [Value.ownBlock, ne_eq, Option.some.injEq]
          have := HC.out.pp
          omega
      have hbl := hgr.block C.pp hlt hne
      have hb15 := hb5.block C.pp (World.block_lt_of_cell? w1 _ hv)
      exact ⟨(World.cell?_of_block (w := w1) (a := ⟨C.pp, 0, none⟩) (hbl.trans hb15)).trans hv, (World.frozen?_of_block (w := w1) (a := ⟨C.pp, 0, none⟩) (hbl.trans hb15)).trans hfz⟩
    have HAPP := Lib.hid happ
    obtain ⟨h6c, h6f⟩ := h6v
    clear hown hgr hat hb5 ht5 happ hEX HT9 HB2 HO3 hv hv2 hji hjz0 hjz1 hjz2
    go_upto_region 4 with fail
    generalize w6.setCell ⟨C.pp, 0, none⟩ (.slice (some ⟨g6, 0, none⟩) (d + 1) cap6) = w7 at HAPP ⊢
    have HK4 := Lib.hid (And.intro (HK.out.1.trans HAPP.out.1) HAPP.out.2)
    have HKs := Lib.hid HAPP.out.1
    clear HAPP h6c h6f hlt6
  case' neg =>
    have hb : ((d : Int) == (L : Int)) = false := by rw [beq_eq_false_iff_ne]; omega
    have HK4 : Hid (Kp C.M w w1 ∧ C.Inv (d + 1) n f e0 w1) := Lib.hid ⟨HK.out.1, HK.out.2.1, HK.out.2.2.1, HK.out.2.2.2.1, HK.out.2.2.2.2.1, L, by omega, _, us, hv0, hfz, HO.out, HEL.out⟩
    have HKs := Lib.hid (Kp.refl C.M w1)
    clear hdl
    go_upto_region 4 with fail
    obtain ⟨w7, hw7⟩ : ∃ w7, w7 = w1 := ⟨_, rfl⟩
    rw [← hw7] at HK4 ⊢
    rw [show Kp C.M w1 w1 = Kp C.M w1 w7 by rw [hw7]] at HKs
    clear hw7 hv
  all_goals
    have HX4 := Lib.hid (HX.out.next HKs.out)
    have HY4 := Lib.hid (HY.out.next HKs.out)
    have HT4 := Lib.hid (HKs.out.old (fun q h hm => (HB.out.lt HK.out.2 hm).2 h) HT.out)
    obtain ⟨_, _, _, _, L4, hdL4, v4, us4, hv4, hfz4, ho4, hel4⟩ := HK4.out.2
    obtain ⟨gb, c4, rfl, _, hgb⟩ := ho4.form (by omega)
    obtain ⟨e0', e1, e2, e3, e4, m0, m1, m2, m3, m4, m5, hte⟩ := hel4 gb c4 rfl d (by omega)
    obtain ⟨qk, qi, qn, qAL, qnl, qcl, qAK, qnk, qck, hqe, _⟩ := hte.open_
    simp only [Value.agg.injEq, Array.mk.injEq, List.cons.injEq, and_true] at hqe
    obtain ⟨rfl, rfl, rfl, rfl, rfl⟩ := hqe
    have HTE := Lib.hid (TmP.mono (S' := fun _ => True) (fun _ _ _ => trivial) _ _ hte)
    have hdl4 : d < L4 := by omega
    have hdi : (d : Int) < (L4 : Int) := by omega
    have hxl : w.heap.size + 1 < w7.heap.size := HY4.out.lt
    have hxl0 : w.heap.size < w7.heap.size := HX4.out.lt
    have m0' : w7.cell? ⟨gb, 0 + d * 6, none⟩ = some (.int .i64 qk) := by rw [Nat.zero_add]; exact m0
    have hb8 : Below w7.heap.size w7 (w7.alloc (.cells #[.int .i64 qk, .int .i64 qi, .string qn, .slice qAL qnl qcl, .slice qAK qnk qck, .bool (EX C.part d)] 76)) := (Below.refl _ _).alloc (Nat.le_refl _) _
    have hk8 := Kp.new HB.out (Kp.refl C.M w7) HK4.out.2 hb8
    have HK8 := Lib.hid (And.intro (HK4.out.1.trans hk8.1) hk8.2)
    have HX8 := Lib.hid (HX4.out.next hk8.1)
    have HY8 := Lib.hid (HY4.out.next hk8.1)
    have HT8 := Lib.hid (show TmV (w7.alloc (.cells #[.int .i64 qk, .int .i64 qi, .string qn, .slice qAL qnl qcl, .slice qAK qnk qck, .bool (EX C.part d)] 76)) (w7.alloc (.cells #[.int .i64 qk, .int .i64 qi, .string qn, .slice qAL qnl qcl, .slice qAK qnk qck, .bool (EX C.part d)] 76)).heap.size (.mk k i nm ls ks) (.agg #[.int .i64 k, .int .i64 i, .string nm, .slice AL ls.length cl, .slice AK ks.length ck]) from (TmP.keep (S := fun q => C.Old q ∧ q < w7.heap.size) (fun p hp => hb8.cell hp.2) _ _ (TmP.mono (fun q h hl => ⟨h, hl⟩) _ _ HT4.out)).tmV)
    have HE8 := Lib.hid (show TmV (w7.alloc (.cells #[.int .i64 qk, .int .i64 qi, .string qn, .slice qAL qnl qcl, .slice qAK qnk qck, .bool (EX C.part d)] 76)) (w7.alloc (.cells #[.int .i64 qk, .int .i64 qi, .string qn, .slice qAL qnl qcl, .slice qAK qnk qck, .bool (EX C.part d)] 76)).heap.size (PT C.part d) (.agg #[.int .i64 qk, .int .i64 qi, .string qn, .slice qAL qnl qcl, .slice qAK qnk qck]) from (TmP.keep (S := fun q => True ∧ q < w7.heap.size) (fun p hp => hb8.cell hp.2) _ _ (TmP.mono (fun q h hl => ⟨trivial, hl⟩) _ _ HTE.out)).tmV)
    have hs0 := AbC.oc HK8.out.2 HCP.out.os HCP.out.s0
    have hff := HK8.out.2.2.1
    clear HX HY HT HKs ho4 hel4 hte HEL HO g0 g1 g2 g3 g4 HK hb8 hk8 HTE HT4
    obtain ⟨z0, z1, z2, z3, z4, _, _, _, _, _, _, _⟩ := HX4.out
    go_upto_region 5 with fail
    by_cases hocc : EX C.part d = true ∧ sameT (.mk k i nm ls ks) (PT C.part d) = true
    · have HR := Lib.hid (show r = some ⟨1, 1, big d, vr d⟩ by rw [← HRR.out]; unfold absP; rw [if_pos hocc])
      have hex := hocc.1
      have HSM := Lib.hid hocc.2
      clear hocc
      obtain ⟨W8, hW8⟩ : ∃ W8, W8 = (w7.alloc (.cells #[.int .i64 qk, .int .i64 qi, .string qn, .slice qAL qnl qcl, .slice qAK qnk qck, .bool (EX C.part d)] 76)) := ⟨_, rfl⟩
      have HW8 := Lib.hid hW8
      rw [← hW8] at HK8 HX8 HY8 HT8 HE8 hs0 hff
      rw [hex] at hW8
      have HW9 := Lib.hid hW8
      clear hW8 hs0
      go_wp2_with fail
      rw [← HW9.out]
      refine (psame_any _ _ _ _ W8.heap.size W8 HT8.out HE8.out (Nat.le_refl _) hsz).mono ?_
      rw [HSM.out]
      rintro e w9 ⟨rfl, hb9⟩
      have HK9 := Lib.hid (Kp.new HB.out HK8.out.1 HK8.out.2 hb9)
      have HY9 := Lib.hid (HY8.out.next (Kp.new HB.out (Kp.refl C.M W8) HK8.out.2 hb9).1)
      obtain ⟨p0, p1⟩ := HK9.out.2.2.1
      have hF := AbC.setF HC.out (f' := f + 1) HK9.out.1 HK9.out.2
      have hFk := (AbC.setF HC.out (f' := f + 1) (Kp.refl C.M w9) HK9.out.2).1
      have hwr : IntKind.i64.wrap (IntKind.i64.wrap (f : Int) + 1) = IntKind.i64.wrap ((f + 1 : Nat) : Int) := by rw [wrap_succ]; rfl
      generalize IntKind.i64.wrap (f : Int) = F at p0 hwr
      generalize hFF : IntKind.i64.wrap ((f + 1 : Nat) : Int) = F' at hF hFk hwr
      clear hFF
      have HKF := Lib.hid hF
      have HYF := Lib.hid (HY9.out.next hFk)
      clear hF hFk hb9 HK8 HX8 HY8 HT8 HE8 hff HW8 HW9 HX4 HY4 HK4 z0 z1 z2 z3 z4 m0 m1 m2 m3 m4 m5 m0' hv4 hfz4
      go_wp2_with fail
      refine (moved_any HB.out HKF.out.2 hn (d : Int) (by omega)).mono ?_
      rintro e w3 ⟨hkk, ⟨hnn, v, rfl, htm, hinv⟩ | ⟨hnn, rfl⟩⟩
      · have HK3 := Lib.hid (And.intro (HKF.out.1.trans hkk) hinv)
        have HY3 := Lib.hid (HYF.out.next hkk)
        unfold vr at htm
        rw [TmP] at htm
        obtain ⟨AL', cl', AK', ck', rfl, _, _, _⟩ := htm
        clear hkk hinv HYF HKF p0 p1
        obtain ⟨y0, y1, y2, y3, y4, f0, f1, f2, f3, f4, _, _⟩ := HY3.out
        go_wp2_with fail
        have h4 := Bx.put HB.out HY3.out HK3.out (by omega) (.int .i64 0) (.int .i64 (d : Int)) (.string ⟨#[]⟩) (.slice AL' 0 cl') (.slice AK' 0 ck')
        generalize (((((w3.setCell ⟨w.heap.size + 1, 0, none⟩ (.int .i64 0)).setCell ⟨w.heap.size + 1, 1, none⟩ (.int .i64 (d : Int))).setCell ⟨w.heap.size + 1, 2, none⟩ (.string ⟨#[]⟩)).setCell ⟨w.heap.size + 1, 3, none⟩ (.slice AL' 0 cl')).setCell ⟨w.heap.size + 1, 4, none⟩ (.slice AK' 0 ck')) = w4 at h4 ⊢
        clear y0 y1 y2 y3 y4 f0 f1 f2 f3 f4
        obtain ⟨y0, y1, y2, y3, y4, _, _, _, _, _, _, _⟩ := h4.2
        exact bodyPost_ret (v := .tuple #[.agg #[.int .i64 0, .int .i64 (d : Int), .string ⟨#[]⟩, .slice AL' 0 cl', .slice AK' 0 ck'], .bool true]) (by simp [results, Tryd.results43, go_sem, y0, y1, y2, y3, y4]) rfl (by rw [HR.out]; exact ⟨h4.1.1, .inl ⟨hnn, _, rfl, tmP_vr' _ _ _ _ _ _ _, h4.1.2⟩⟩)

      · have HK3 := Lib.hid (HKF.out.1.trans hkk)
        clear hkk
        go_wp2_with fail
        exact ⟨rfl, by rw [HR.out]; exact ⟨HK3.out, .inr ⟨hnn, rfl⟩⟩⟩
    · have HR := Lib.hid (show r = shR 1 0 (.mk k i nm ls ks) d by rw [← HRR.out]; unfold absP; rw [if_neg hocc])
      obtain ⟨W8, hW8⟩ : ∃ W8, W8 = (w7.alloc (.cells #[.int .i64 qk, .int .i64 qi, .string qn, .slice qAL qnl qcl, .slice qAK qnk qck, .bool (EX C.part d)] 76)) := ⟨_, rfl⟩
      rw [← hW8] at HK8 HX8 HY8 HT8 HE8 hs0 hff
      by_cases hex : EX C.part d = true
      case' pos =>
        have HSM := Lib.hid (show sameT (.mk k i nm ls ks) (PT C.part d) = false from Bool.eq_false_iff.2 (fun h => hocc ⟨hex, h⟩))
        rw [hex] at hW8
        have HW9 := Lib.hid hW8
        clear hW8 hs0 hocc
        go_wp2_with fail
        rw [← HW9.out]
        refine (psame_any _ _ _ _ W8.heap.size W8 HT8.out HE8.out (Nat.le_refl _) hsz).mono ?_
        rw [HSM.out]
        rintro e w9 ⟨rfl, hb9⟩
        have HK9 := Lib.hid (Kp.new HB.out HK8.out.1 HK8.out.2 hb9)
        have hk9 := (Kp.new HB.out (Kp.refl C.M W8) HK8.out.2 hb9).1
        have HY9 := Lib.hid (HY8.out.next hk9)
        have HX9 := Lib.hid (HX8.out.next hk9)
        clear hb9 hk9 HK8 HX8 HY8 HT8 HE8 hff HW9 HX4 HY4 HK4 z0 z1 z2 z3 z4 m0 m1 m2 m3 m4 m5 m0' hv4 hfz4
      case' neg =>
        have hex : EX C.part d = false := Bool.eq_false_iff.2 hex
        rw [hex] at hW8
        have HW9 := Lib.hid hW8
        clear hW8 hs0 hocc
        go_upto_region 8 with fail
        rw [← HW9.out]
        have HK9 := HK8
        have HY9 := HY8
        have HX9 := HX8
        obtain ⟨w9, hw9⟩ : ∃ w9, w9 = W8 := ⟨_, rfl⟩
        rw [← hw9] at HK9 HY9 HX9 ⊢
        clear hw9 HK8 HX8 HY8 HT8 HE8 hff HW9 HX4 HY4 HK4 z0 z1 z2 z3 z4 m0 m1 m2 m3 m4 m5 m0' hv4 hfz4
      all_goals
        have hs0 := AbC.oc HK9.out.2 HCP.out.os HCP.out.s0
        obtain ⟨x0, x1, x2, x3, x4, _, _, _, _, _, _, _⟩ := HX9.out
        have HSR := Lib.hid (shifter1_any HB.out (pf := pf1) (pg := pg1) (fr := 0) (by_ := 1) (fun {d n f e w} h => ⟨AbC.oc h HCP.out.o1 HCP.out.c1, AbC.oc h HCP.out.o2 HCP.out.c2⟩) HK9.out.2 hn k i nm AL ls.length cl AK ks.length ck ls ks hi0 hd (by omega) (by omega))
        go_wp2_with fail
        refine HSR.out.mono ?_
        rw [← HR.out]
        have hlt9 : w.heap.size + 1 < w9.heap.size := HY9.out.lt
        cases r with
        | none =>
          rintro e w3 ⟨rfl, hk3, hi3⟩
          unfold zeroV
          have HK3 := Lib.hid (And.intro (HK9.out.1.trans hk3) hi3)
          have HY3 := Lib.hid (HY9.out.next hk3)
          clear hk3 hi3 x0 x1 x2 x3 x4 hs0 HX9 HY9 HK9 HSR
          obtain ⟨y0, y1, y2, y3, y4, f0, f1, f2, f3, f4, _, _⟩ := HY3.out
          go_wp2_with fail
          have h4 := Bx.put HB.out HY3.out HK3.out (by omega) (.int .i64 0) (.int .i64 0) (.string ⟨#[]⟩) (.slice none 0 0) (.slice none 0 0)
          generalize (((((w3.setCell ⟨w.heap.size + 1, 0, none⟩ (.int .i64 0)).setCell ⟨w.heap.size + 1, 1, none⟩ (.int .i64 0)).setCell ⟨w.heap.size + 1, 2, none⟩ (.string ⟨#[]⟩)).setCell ⟨w.heap.size + 1, 3, none⟩ (.slice none 0 0)).setCell ⟨w.heap.size + 1, 4, none⟩ (.slice none 0 0)) = w4 at h4 ⊢
          clear y0 y1 y2 y3 y4 f0 f1 f2 f3 f4
          obtain ⟨y0, y1, y2, y3, y4, _, _, _, _, _, _, _⟩ := h4.2
          exact bodyPost_ret (v := .tuple #[.agg #[.int .i64 0, .int .i64 0, .string ⟨#[]⟩, .slice none 0 0, .slice none 0 0], .bool false]) (by simp [results, Tryd.results43, go_sem, y0, y1, y2, y3, y4]) rfl ⟨rfl, h4.1.1, h4.1.2⟩
        | some x =>
          rintro e w3 ⟨hkk, ⟨hnn, v, rfl, htm, hinv⟩ | ⟨hnn, rfl⟩⟩
          · have HK3 := Lib.hid (And.intro (HK9.out.1.trans hkk) hinv)
            have HY3 := Lib.hid (HY9.out.next hkk)
            obtain ⟨vk, vi, vn, vAL, vnl, vcl, vAK, vnk, vck, rfl, _⟩ := htm.open_
            have HTM := Lib.hid htm
            clear hkk hinv htm x0 x1 x2 x3 x4 hs0 HX9 HY9 HK9 HSR
            obtain ⟨y0, y1, y2, y3, y4, f0, f1, f2, f3, f4, _, _⟩ := HY3.out
            go_wp2_with fail
            have h4 := Bx.put HB.out HY3.out HK3.out (by omega) (.int .i64 vk) (.int .i64 vi) (.string vn) (.slice vAL vnl vcl) (.slice vAK vnk vck)
            have h5 := Rs.less (w0 := w) (Bx.keepR HB.out HY3.out HK3.out.2 hlt9 HTM.out (.int .i64 vk) (.int .i64 vi) (.string vn) (.slice vAL vnl vcl) (.slice vAK vnk vck)) (by omega)
            generalize (((((w3.setCell ⟨w.heap.size + 1, 0, none⟩ (.int .i64 vk)).setCell ⟨w.heap.size + 1, 1, none⟩ (.int .i64 vi)).setCell ⟨w.heap.size + 1, 2, none⟩ (.string vn)).setCell ⟨w.heap.size + 1, 3, none⟩ (.slice vAL vnl vcl)).setCell ⟨w.heap.size + 1, 4, none⟩ (.slice vAK vnk vck)) = w4 at h4 h5 ⊢
            clear y0 y1 y2 y3 y4 f0 f1 f2 f3 f4
            obtain ⟨y0, y1, y2, y3, y4, _, _, _, _, _, _, _⟩ := h4.2
            exact bodyPost_ret (v := .tuple #[.agg #[.int .i64 vk, .int .i64 vi, .string vn, .slice vAL vnl vcl, .slice vAK vnk vck], .bool true]) (by simp [results, Tryd.results43, go_sem, y0, y1, y2, y3, y4]) rfl ⟨h4.1.1, .inl ⟨hnn, _, rfl, h5, h4.1.2⟩⟩
          · have HK3 := Lib.hid (HK9.out.1.trans hkk)
            clear hkk
            go_wp2_with fail
            exact ⟨rfl, HK3.out, .inr ⟨hnn, rfl⟩⟩
end Go.Proofs.YtobaeeobfcffoaaDoor
