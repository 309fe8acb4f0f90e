/- The stack of Same of the program: pairs of lists of kids. -/
import Derived.Test.YtobaeeobfcffoaaDoorRsm
import Derived.WalkSmall
import Derived.Deep.AppendLies
import Derived.Deep.LoopGhost
/-! The stack of Same of the program: pairs of lists of kids. -/
namespace Go.Proofs.YtobaeeobfcffoaaDoor
open Go.RowKit

/-- Two lists of terms on memory. -/
structure Pr where
  A : Option Addr
  ca : Nat
  l : List Tm
  A' : Option Addr
  ca' : Nat
  l' : List Tm
def Pr.cells (p : Pr) : List Value := [.slice p.A p.l.length p.ca, .slice p.A' p.l'.length p.ca']
def flatP (st : List Pr) : List Value := st.flatMap Pr.cells
theorem flatP_append (a b : List Pr) : flatP (a ++ b) = flatP a ++ flatP b := List.flatMap_append
theorem flatP_length (st : List Pr) : (flatP st).length = st.length * 2 := by
  induction st with
  | nil => rfl
  | cons a r ih =>
    simp only [flatP, List.flatMap_cons, List.length_append, List.length_cons] at ih ⊢
    rw [ih]
    simp [Pr.cells]
    omega
/-- A list of terms on memory. -/
def LK (w : World) (B : Nat) (A : Option Addr) (l : List Tm) : Prop := l.length * 80 ≤ 140737488355328 ∧ (0 < l.length → ∃ b off, A = some ⟨b, off, none⟩ ∧ b < B ∧ KsV w B b off l)
def Pr.ok (w : World) (B : Nat) (p : Pr) : Prop := p.l.length = p.l'.length ∧ LK w B p.A p.l ∧ LK w B p.A' p.l'
def StkP (w : World) (base : Nat) (v : Value) (st : List Pr) : Prop := w.ownsRow base 106 2 v st.length (flatP st)
def allS (st : List Pr) : Bool := st.all fun p => sameL p.l p.l'
theorem allS_snoc (st : List Pr) (p : Pr) : allS (st ++ [p]) = (allS st && sameL p.l p.l') := by simp [allS]
def wtS : List Pr → Nat
  | [] => 0
  | p :: r => szL p.l + 1 + wtS r
theorem wtS_snoc (st : List Pr) (p : Pr) : wtS (st ++ [p]) = wtS st + (szL p.l + 1) := by
  induction st with
  | nil => simp [wtS]
  | cons a r ih => simp only [List.cons_append, wtS, ih]; omega
theorem wtS_len (st : List Pr) : st.length ≤ wtS st := by
  induction st with
  | nil => simp
  | cons a r ih => simp only [List.length_cons, wtS]; omega
theorem sameT_nd : ∀ (a b : Tm), sameT a b = (ndEq a b && sameL a.kids b.kids)
  | .mk k i nm ls ks, .mk k' i' nm' ls' ks' => by
    rw [sameT_mk, ndEq_mk]
    simp only [Tm.kids]
    generalize decide (k = k') = d1
    generalize decide (i = i') = d2
    generalize decide (nm = nm') = d3
    generalize decide (ls = ls') = d4
    generalize decide (ks.length = ks'.length) = d5
    cases d1 <;> cases d2 <;> cases d3 <;> cases d4 <;> cases d5 <;> simp
theorem ndEq_len {a b : Tm} (h : ndEq a b = true) : a.kids.length = b.kids.length := by
  cases a
  cases b
  rw [ndEq_mk] at h
  simp only [Bool.and_eq_true, decide_eq_true_eq] at h
  exact h.2.2.2.1
theorem TmV.lk {w : World} {B : Nat} {t : Tm} {k i : Int} {nm : ByteArray} {AL : Option Addr} {nl cl n : Nat} {AK : Option Addr} {ck : Nat} (h : TmV w B t (.agg #[.int .i64 k, .int .i64 i, .string nm, .slice AL nl cl, .slice AK n ck])) : LK w B AK t.kids := by
  cases t with
  | mk k' i' nm' ls ks =>
    rw [TmV] at h
    obtain ⟨AL', cl', AK', ck', hv, _, hz, hk⟩ := h
    simp only [Value.agg.injEq, Array.mk.injEq, List.cons.injEq, Value.slice.injEq, and_true] at hv
    obtain ⟨_, _, _, _, rfl, _⟩ := hv
    exact ⟨hz, hk⟩
theorem StkP.top {w : World} {base g c : Nat} {st : List Pr} {x : Pr} (h : StkP w base (.slice (some ⟨g, 0, none⟩) (st.length + 1) c) (st ++ [x])) :
    w.cell? ⟨g, st.length * 2, none⟩ = some (.slice x.A x.l.length x.ca) ∧ w.cell? ⟨g, st.length * 2 + 1, none⟩ = some (.slice x.A' x.l'.length x.ca') := by
  unfold StkP at h
  rw [List.length_append, List.length_singleton] at h
  have e : ∀ j, j < 2 → (flatP (st ++ [x]))[st.length * 2 + j]? = x.cells[j]? := fun j hj => by
    rw [flatP_append, List.getElem?_append_right (by rw [flatP_length]; omega), flatP_length, show st.length * 2 + j - st.length * 2 = j by omega]
    simp [flatP]
  exact ⟨(h.cellAt (st.length * 2) (by omega)).trans (e 0 (by omega)), (h.cellAt (st.length * 2 + 1) (by omega)).trans (e 1 (by omega))⟩
theorem StkP.pop {w : World} {base g c : Nat} {st : List Pr} {x : Pr} (h : StkP w base (.slice (some ⟨g, 0, none⟩) (st.length + 1) c) (st ++ [x])) : StkP w base (.slice (some ⟨g, 0, none⟩) st.length c) st := by
  unfold StkP at h ⊢
  rw [flatP_append, List.length_append, List.length_singleton] at h
  exact ownsRow_pop (flatP_length st) h
theorem StkP.below {w w' : World} {base : Nat} {v : Value} {st : List Pr} (h : StkP w base v st) (hb : Below w.heap.size w w') : StkP w' base v st :=
  World.ownsRow.kept h (row := none) ⟨hb.os, hb.tape, hb.output, hb.size, fun i hi _ => hb.block i hi⟩ (by cases v.ownBlock <;> simp)
theorem info_lists : (Tryd.prog.info? 106).map (fun i => (i.zero, i.size, i.bytes)) = some (some (.agg #[.slice none 0 0, .slice none 0 0]), 2, 48) := by kernel_rfl
theorem StkP.snoc {w : World} {base : Nat} {v : Value} {st : List Pr} {p : Pr} (h : w.ownsRow base 106 2 v (st.length + 1) (flatP st ++ [.slice p.A p.l.length p.ca, .slice p.A' p.l'.length p.ca'])) : StkP w base v (st ++ [p]) := by
  unfold StkP
  rw [List.length_append, flatP_append]
  simpa [flatP, Pr.cells] using h
end Go.Proofs.YtobaeeobfcffoaaDoor

/-! Same of the program. -/
namespace Go.Proofs.YtobaeeobfcffoaaDoor
open Go.RowKit

theorem StkP.cap {w : World} {base n c g : Nat} {st : List Pr} (h : StkP w base (.slice (some ⟨g, 0, none⟩) n c) st) : st.length ≤ c := by
  rcases h.2 with ⟨e, _⟩ | ⟨g', cap, cur, e, _, _, hn, _⟩
  · cases e
  · cases e
    exact hn

set_option maxRecDepth 100000 in
set_option maxHeartbeats 8000000 in
theorem psame_any (a b : Tm) (va vb : Value) (B : Nat) (w : World) (hva : TmV w B a va) (hvb : TmV w B b vb) (hB : B ≤ w.heap.size) (hsz : szT a ≤ 1000000000) :
    Calls Tryd.prog 44 #[va, vb] w fun e w' => e = .returned (.bool (sameT a b)) ∧ Below w.heap.size w w' := by
  obtain ⟨i0, hi, hz0, hz1, hz2⟩ := info_parts info_lists
  have hva' := hva
  have hvb' := hvb
  obtain ⟨k1, i1, n1, AL1, nl1, cl1, AK1, ck1, rfl, hka, _⟩ := hva.open_
  obtain ⟨k2, i2, n2, AL2, nl2, cl2, AK2, ck2, rfl, hkb', _⟩ := hvb.open_
  have T0 := Lib.hid (TwT.start hva' hvb' hB)
  have HLK := Lib.hid (And.intro hva'.lk hvb'.lk)
  have hszk := szT_kids a
  clear hva hvb hva' hvb'
  obtain ⟨x0, x1, x2, x3, x4, y0, y1, y2, y3, y4, _, _, _, _, _⟩ := T0.out
  go_enter Tryd.func44, Tryd.ntmps44
  go_wp2_with fail
  refine (sameNode_any a b _ _ B _ T0.out.tm T0.out.tn T0.out.size).mono ?_
  rintro e w1 ⟨rfl, hb1⟩
  have T1 := Lib.hid (T0.out.next hb1)
  clear hb1 x0 x1 x2 x3 x4 y0 y1 y2 y3 y4 T0
  obtain ⟨x0, x1, x2, x3, x4, y0, y1, y2, y3, y4, _, _, hbl, hszw, hsw⟩ := T1.out
  obtain ⟨ev, hev⟩ : ∃ ev, ndEq a b = ev := ⟨_, rfl⟩
  have HEV := Lib.hid hev
  rw [hev]
  clear hev
  cases ev with
  | false =>
    have HC : Hid (sameT a b = false) := Lib.hid (by rw [sameT_nd, HEV.out]; rfl)
    go_wp2_with fail
    go_ret
    exact ⟨ret_bool HC.out.symm, hbl⟩
  | true =>
    have HC : Hid (sameT a b = sameL a.kids b.kids) := Lib.hid (by rw [sameT_nd, HEV.out]; rfl)
    have HKL := Lib.hid (ndEq_len HEV.out)
    have HBL := Lib.hid hbl
    clear hbl HEV
    go_wp2_with fail
    go_loopg [5] (szL a.kids + 1) (fun gk s5 wx => ∃ (g c : Nat) (st : List Pr), s5 = .slice (some ⟨g, 0, none⟩) st.length c ∧ Hid (StkP wx w.heap.size (.slice (some ⟨g, 0, none⟩) st.length c) st) ∧ Hid (∀ p ∈ st, p.ok w B) ∧ Hid (sameT a b = allS st) ∧ wtS st ≤ gk ∧ gk ≤ 1000000001 ∧ Below w.heap.size w wx)
    case atStart =>
      refine ⟨w1.heap.size, 1, [⟨AK1, ck1, a.kids, AK2, ck2, b.kids⟩], rfl, Lib.hid ?_, Lib.hid ?_, Lib.hid ?_, by simp [wtS], by omega, HBL.out.alloc (by omega) _⟩
      · have h := World.ownsRow_lit (base := w.heap.size) (size := 2) (e := 106) w1 #[.slice AK1 a.kids.length ck1, .slice AK2 b.kids.length ck2] 1 (by omega) (by unfold maxLen; omega) rfl
        exact h
      · intro p hp
        rw [List.mem_singleton] at hp
        subst hp
        exact ⟨HKL.out, HLK.out.1, HLK.out.2⟩
      · rw [HC.out]; simp [allS]
    case round =>
      obtain ⟨g, c, st, rfl, HO, HK, HE, hwt, hgk, hb⟩ := hrel
      clear x0 x1 x2 x3 x4 y0 y1 y2 y3 y4 T1 HKL
      rcases List.eq_nil_or_concat st with rfl | ⟨st0, x, rfl⟩
      · have HZ : Hid (sameT a b = true) := Lib.hid (HE.out.trans rfl)
        go_wp2_with fail
        go_ret
        exact ⟨ret_bool HZ.out.symm, hb⟩
      · rw [List.concat_eq_append] at HO HK HE hwt ⊢
        rw [List.length_append, List.length_singleton] at HO ⊢
        obtain ⟨xA, xca, xl, xA', xca', xl'⟩ := x
        obtain ⟨t0, t1⟩ := HO.out.top
        have HP := Lib.hid HO.out.pop
        obtain ⟨hxl, hA, hA'⟩ := HK.out ⟨xA, xca, xl, xA', xca', xl'⟩ (by simp)
        have HK0 := Lib.hid (fun p (hp : p ∈ st0) => HK.out p (List.mem_append_left _ hp))
        rw [allS_snoc] at HE
        rw [wtS_snoc] at hwt
        simp only at t0 t1 hxl hA hA' HE hwt
        have hgl := World.ownsRow.lt HO.out g rfl
        have hcap := HO.out.cap
        rw [List.length_append, List.length_singleton] at hcap
        have hcp : st0.length ≤ c := by omega
        have hlen0 := wtS_len st0
        have hxz := hA.1
        have HA := Lib.hid (And.intro hxl (And.intro hA hA'))
        have HB0 := Lib.hid hb
        clear hxl hA hA' HO HK hb
        go_wp2_with fail
        have hb6 : Below wr.heap.size wr (wr.alloc (.cells #[.slice xA xl.length xca, .slice xA' xl'.length xca'] 106)) := (Below.refl _ _).alloc (Nat.le_refl _) _
        have hB6 := Lib.hid (HB0.out.trans (hb6.mono HB0.out.size))
        have HP6 := Lib.hid (HP.out.below hb6)
        have HF6 := Lib.hid (World.alloc_heap_new wr (.cells #[.slice xA xl.length xca, .slice xA' xl'.length xca'] 106))
        obtain ⟨Bx, hBx⟩ : ∃ Bx, Bx = wr.heap.size := ⟨_, rfl⟩
        rw [← hBx] at HF6 hgl ⊢
        have hgB : g ≠ Bx := by omega
        have hwB := HB0.out.size
        rw [← hBx] at hwB
        clear hb6 t0 t1 HP HB0 hBx hcap
        go_loopw [5, 36] (fun s5 s36 wx => ∃ (j : Nat) (st1 : List Pr) (g1 c1 : Nat), j ≤ xl.length ∧ s5 = .slice (some ⟨g1, 0, none⟩) st1.length c1 ∧ s36 = .int .i64 (j : Int) ∧ g1 ≠ Bx ∧ Hid (StkP wx w.heap.size (.slice (some ⟨g1, 0, none⟩) st1.length c1) st1) ∧ Hid (∀ p ∈ st1, p.ok w B) ∧ Hid (sameT a b = (allS st1 && sameL (xl.drop j) (xl'.drop j))) ∧ wtS st1 + szL (xl.drop j) ≤ wtS st0 + szL xl ∧ Hid (Below w.heap.size w wx) ∧ Hid (wx.heap[Bx]? = some (.cells #[.slice xA xl.length xca, .slice xA' xl'.length xca'] 106 (0, 0)))) (fun _ s36 _ => xl.length - (intOf s36).toNat)
        case atStart => exact ⟨0, st0, g, c, Nat.zero_le _, rfl, rfl, hgB, HP6, HK0, HE, Nat.le_refl _, hB6, HF6⟩
        case round =>
          obtain ⟨j, st1, g1, c1, hj, rfl, rfl, hgB1, HO1, HK1, HE1, hwt1, HB1, HF1⟩ := hrel
          clear HP6 HF6 hB6 HK0 HE hgB hgl
          by_cases hjl : j < xl.length
          · have hjl2 : j < xl'.length := by have := HA.out.1; omega
            obtain ⟨kb, ko, rfl, hkb, hkc⟩ := HA.out.2.1.2 (by omega)
            obtain ⟨lb, lo, rfl, hlb, hlc⟩ := HA.out.2.2.2 (by omega)
            obtain ⟨d0, d1, d2, d3, d4, p0, p1, p2, p3, p4, hq⟩ := hkc.at_ (List.getElem?_eq_getElem hjl)
            obtain ⟨e0, e1, e2, e3, e4, r0, r1, r2, r3, r4, hr⟩ := hlc.at_ (List.getElem?_eq_getElem hjl2)
            obtain ⟨qk, qi, qn, qAL, qnl, qcl, qAK, qck, hqe, hql, _⟩ := hq.open_
            simp only [Value.agg.injEq, Array.mk.injEq, List.cons.injEq, and_true] at hqe
            obtain ⟨rfl, rfl, rfl, rfl, rfl⟩ := hqe
            obtain ⟨rk, ri, rn, rAL, rnl, rcl, rAK, rck, hre, hrl, _⟩ := hr.open_
            simp only [Value.agg.injEq, Array.mk.injEq, List.cons.injEq, and_true] at hre
            obtain ⟨rfl, rfl, rfl, rfl, rfl⟩ := hre
            have hkw : kb < w.heap.size := by omega
            have hlw : lb < w.heap.size := by omega
            replace p0 := (HB1.out.cell (p := ⟨kb, ko + j * 5, none⟩) hkw).trans p0
            replace p1 := (HB1.out.cell (p := ⟨kb, ko + j * 5 + 1, none⟩) hkw).trans p1
            replace p2 := (HB1.out.cell (p := ⟨kb, ko + j * 5 + 2, none⟩) hkw).trans p2
            replace p3 := (HB1.out.cell (p := ⟨kb, ko + j * 5 + 3, none⟩) hkw).trans p3
            replace p4 := (HB1.out.cell (p := ⟨kb, ko + j * 5 + 4, none⟩) hkw).trans p4
            have HD := Lib.hid (sameL_drop hjl hjl2)
            have HND := Lib.hid (sameT_nd xl[j] xl'[j])
            have hsl : szL (xl.drop j) = szT xl[j] + szL (xl.drop (j + 1)) := by rw [← List.getElem_cons_drop hjl, szL]
            have hsk := szT_kids xl[j]
            have HQL := Lib.hid (And.intro hq.lk hr.lk)
            have hzw := HB1.out.size
            have HTQ := Lib.hid (hq.below HB1.out hB)
            have HTR := Lib.hid (hr.below HB1.out hB)
            have HR := Lib.hid (And.intro r0 (And.intro r1 (And.intro r2 (And.intro r3 r4))))
            have hBxl : Bx < wr.heap.size := (Array.getElem?_eq_some_iff.1 HF1.out).1
            have hgl1 := World.ownsRow.lt HO1.out g1 rfl
            have hl1 := wtS_len st1
            have HNL := Lib.hid (fun (h : ndEq xl[j] xl'[j] = true) => ndEq_len h)
            generalize xl[j] = q at *
            generalize xl'[j] = r at *
            clear hq hr hkc hlc r0 r1 r2 r3 r4
            go_wp2_with fail
            have hzB : B ≤ wr.heap.size := by omega
            have HBQ := Lib.hid (BxT.start HTQ.out hzB)
            obtain ⟨wq, hwq⟩ : ∃ wq, wq = wr.alloc (.cells #[.int .i64 qk, .int .i64 qi, .string qn, .slice qAL qnl qcl, .slice qAK q.kids.length qck] 25) := ⟨_, rfl⟩
            rw [← hwq] at HBQ ⊢
            have hbq : Below wr.heap.size wr wq := by rw [hwq]; exact (Below.refl _ _).alloc (Nat.le_refl _) _
            have hlw' : lb < wr.heap.size := by omega
            have HB := Lib.hid (Below.refl wq.drew.heap.size wq.drew)
            have HW8 := Lib.hid (show ∀ w9, Below wq.drew.heap.size wq.drew w9 → Below wr.heap.size wr w9 from fun w9 hb => hbq.trans (Below.mono (show Below wq.heap.size wq w9 from ⟨hb.os, hb.tape, hb.output, hb.size, hb.block⟩) hbq.size))
            have HNX := Lib.hid (show ∀ w9, Below wq.drew.heap.size wq.drew w9 → (TmV w9 B q (.agg #[.int .i64 qk, .int .i64 qi, .string qn, .slice qAL qnl qcl, .slice qAK q.kids.length qck]) ∧ TmV w9 B r (.agg #[.int .i64 rk, .int .i64 ri, .string rn, .slice rAL rnl rcl, .slice rAK r.kids.length rck]) ∧ B ≤ w9.heap.size) ∧ w9.cell? ⟨wr.heap.size, 0, none⟩ = some (.int .i64 qk) ∧ w9.cell? ⟨wr.heap.size, 1, none⟩ = some (.int .i64 qi) ∧ w9.cell? ⟨wr.heap.size, 2, none⟩ = some (.string qn) ∧ w9.cell? ⟨wr.heap.size, 3, none⟩ = some (.slice qAL qnl qcl) ∧ w9.cell? ⟨wr.heap.size, 4, none⟩ = some (.slice qAK q.kids.length qck) ∧ w9.cell? ⟨Bx, 1, none⟩ = some (.slice (some ⟨lb, lo, none⟩) xl'.length xca') ∧ w9.cell? ⟨lb, lo + j * 5, none⟩ = some (.int .i64 rk) ∧ w9.cell? ⟨lb, lo + j * 5 + 1, none⟩ = some (.int .i64 ri) ∧ w9.cell? ⟨lb, lo + j * 5 + 2, none⟩ = some (.string rn) ∧ w9.cell? ⟨lb, lo + j * 5 + 3, none⟩ = some (.slice rAL rnl rcl) ∧ w9.cell? ⟨lb, lo + j * 5 + 4, none⟩ = some (.slice rAK r.kids.length rck) from fun w9 hb => by
              have hb' : Below wq.heap.size wq w9 := ⟨hb.os, hb.tape, hb.output, hb.size, hb.block⟩
              have hb2 := HW8.out w9 hb
              have hX := HBQ.out.next hb'
              have hf := (hb2.block Bx hBxl).trans HF1.out
              exact ⟨⟨HTQ.out.below hb2 hzB, HTR.out.below hb2 hzB, Nat.le_trans hzB hb2.size⟩, hX.x0, hX.x1, hX.x2, hX.x3, hX.x4, cell_of_row _ _ 1 _ _ _ hf, (hb2.cell (p := ⟨lb, lo + j * 5, none⟩) hlw').trans ((HB1.out.cell (p := ⟨lb, lo + j * 5, none⟩) hlw).trans HR.out.1), (hb2.cell (p := ⟨lb, lo + j * 5 + 1, none⟩) hlw').trans ((HB1.out.cell (p := ⟨lb, lo + j * 5 + 1, none⟩) hlw).trans HR.out.2.1), (hb2.cell (p := ⟨lb, lo + j * 5 + 2, none⟩) hlw').trans ((HB1.out.cell (p := ⟨lb, lo + j * 5 + 2, none⟩) hlw).trans HR.out.2.2.1), (hb2.cell (p := ⟨lb, lo + j * 5 + 3, none⟩) hlw').trans ((HB1.out.cell (p := ⟨lb, lo + j * 5 + 3, none⟩) hlw).trans HR.out.2.2.2.1), (hb2.cell (p := ⟨lb, lo + j * 5 + 4, none⟩) hlw').trans ((HB1.out.cell (p := ⟨lb, lo + j * 5 + 4, none⟩) hlw).trans HR.out.2.2.2.2)⟩)
            obtain ⟨ev, hev⟩ : ∃ ev, ndEq q r = ev := ⟨_, rfl⟩
            rw [hev] at HND HNL
            have HI := Lib.hid (show ∀ W, TmV W B q (.agg #[.int .i64 qk, .int .i64 qi, .string qn, .slice qAL qnl qcl, .slice qAK q.kids.length qck]) → TmV W B r (.agg #[.int .i64 rk, .int .i64 ri, .string rn, .slice rAL rnl rcl, .slice rAK r.kids.length rck]) → B ≤ W.heap.size → Calls Tryd.prog 64 #[.agg #[.int .i64 qk, .int .i64 qi, .string qn, .slice qAL qnl qcl, .slice qAK q.kids.length qck], .agg #[.int .i64 rk, .int .i64 ri, .string rn, .slice rAL rnl rcl, .slice rAK r.kids.length rck]] W fun e w' => e = .returned (.bool ev) ∧ Below W.heap.size W w' from fun W hq hr hBW => by
              have h := sameNode_any q r _ _ B W hq hr hBW
              rw [hev] at h
              exact h)
            clear hwq hbq hev p0 p1 p2 p3 p4
            refine wp_region_held_drew (S := fun w' => w'.cell? ⟨wr.heap.size, 0, none⟩ = some (.int .i64 qk) ∧ w'.cell? ⟨wr.heap.size, 1, none⟩ = some (.int .i64 qi) ∧ w'.cell? ⟨wr.heap.size, 2, none⟩ = some (.string qn) ∧ w'.cell? ⟨wr.heap.size, 3, none⟩ = some (.slice qAL qnl qcl) ∧ w'.cell? ⟨wr.heap.size, 4, none⟩ = some (.slice qAK q.kids.length qck) ∧ w'.cell? ⟨Bx, 1, none⟩ = some (.slice (some ⟨lb, lo, none⟩) xl'.length xca') ∧ w'.cell? ⟨lb, lo + j * 5, none⟩ = some (.int .i64 rk) ∧ w'.cell? ⟨lb, lo + j * 5 + 1, none⟩ = some (.int .i64 ri) ∧ w'.cell? ⟨lb, lo + j * 5 + 2, none⟩ = some (.string rn) ∧ w'.cell? ⟨lb, lo + j * 5 + 3, none⟩ = some (.slice rAL rnl rcl) ∧ w'.cell? ⟨lb, lo + j * 5 + 4, none⟩ = some (.slice rAK r.kids.length rck)) (by kernel_rfl) ((HNX.out _ HB.out).2) ?_
            intro hS
            refine wpAnyH_take (i := 0) (oi := { dst := some 41, op := Op.load 25 (Operand.tmp 8), type := 25, pos := "term.go:151", after := #[], guard := none }) (v := .agg #[.int .i64 qk, .int .i64 qi, .string qn, .slice qAL qnl qcl, .slice qAK q.kids.length qck]) rfl (by kernel_rfl) (by kernel_rfl) (by kernel_rfl) (fun _ _ _ h => h) (Or.inl ⟨by rfl, ?_⟩) hS ?_
            · intro w9 hSw
              obtain ⟨s0, s1, s2, s3, s4, s5, s6, s7, s8, s9, s10⟩ := hSw
              go_simp
            simp only [Act.put, List.setIfInBounds_toArray, List.set_cons_zero, List.set_cons_succ]
            refine wpAnyH_take (i := 1) (oi := { dst := some 42, op := Op.fieldAddr 106 (Operand.tmp 6) 1, type := 0, pos := "term.go:151", after := #[], guard := none }) (v := .pointer (some ⟨Bx, 1, none⟩)) rfl (by kernel_rfl) (by kernel_rfl) (by kernel_rfl) (fun _ _ _ h => h) (Or.inl ⟨by rfl, ?_⟩) hS ?_
            · intro w9 hSw
              obtain ⟨s0, s1, s2, s3, s4, s5, s6, s7, s8, s9, s10⟩ := hSw
              go_simp
            simp only [Act.put, List.setIfInBounds_toArray, List.set_cons_zero, List.set_cons_succ]
            refine wpAnyH_take (i := 2) (oi := { dst := some 43, op := Op.load 23 (Operand.tmp 42), type := 23, pos := "term.go:151", after := #[{ on := 1, ground := Ground.data }], guard := none }) (v := .slice (some ⟨lb, lo, none⟩) xl'.length xca') rfl (by kernel_rfl) (by kernel_rfl) (by kernel_rfl) (fun _ _ _ h => h) (Or.inl ⟨by rfl, ?_⟩) hS ?_
            · intro w9 hSw
              obtain ⟨s0, s1, s2, s3, s4, s5, s6, s7, s8, s9, s10⟩ := hSw
              go_simp
            simp only [Act.put, List.setIfInBounds_toArray, List.set_cons_zero, List.set_cons_succ]
            refine wpAnyH_take (i := 3) (oi := { dst := some 44, op := Op.move (Operand.tmp 7), type := 3, pos := "term.go:151", after := #[], guard := none }) (v := .int .i64 j) rfl (by kernel_rfl) (by kernel_rfl) (by kernel_rfl) (fun _ _ _ h => h) (Or.inl ⟨by rfl, ?_⟩) hS ?_
            · intro w9 hSw
              obtain ⟨s0, s1, s2, s3, s4, s5, s6, s7, s8, s9, s10⟩ := hSw
              go_simp
            simp only [Act.put, List.setIfInBounds_toArray, List.set_cons_zero, List.set_cons_succ]
            refine wpAnyH_take (i := 4) (oi := { dst := some 45, op := Op.indexAddr 23 (Operand.tmp 43) (Operand.tmp 44), type := 0, pos := "term.go:151", after := #[{ on := 2, ground := Ground.data }, { on := 3, ground := Ground.data }], guard := none }) (v := .pointer (some ⟨lb, lo + j * 5, none⟩)) rfl (by kernel_rfl) (by kernel_rfl) (by kernel_rfl) (fun _ _ _ h => h) (Or.inl ⟨by rfl, ?_⟩) hS ?_
            · intro w9 hSw
              obtain ⟨s0, s1, s2, s3, s4, s5, s6, s7, s8, s9, s10⟩ := hSw
              go_simp
            simp only [Act.put, List.setIfInBounds_toArray, List.set_cons_zero, List.set_cons_succ]
            refine wpAnyH_take (i := 5) (oi := { dst := some 46, op := Op.load 25 (Operand.tmp 45), type := 25, pos := "term.go:151", after := #[{ on := 4, ground := Ground.data }], guard := none }) (v := .agg #[.int .i64 rk, .int .i64 ri, .string rn, .slice rAL rnl rcl, .slice rAK r.kids.length rck]) rfl (by kernel_rfl) (by kernel_rfl) (by kernel_rfl) (fun _ _ _ h => h) (Or.inl ⟨by rfl, ?_⟩) hS ?_
            · intro w9 hSw
              obtain ⟨s0, s1, s2, s3, s4, s5, s6, s7, s8, s9, s10⟩ := hSw
              go_simp
            simp only [Act.put, List.setIfInBounds_toArray, List.set_cons_zero, List.set_cons_succ]
            refine wpAnyH_ready (rs := [6]) (by kernel_rfl) (List.cons_ne_nil _ _) ?_
            refine AllReadyH.cons (o := { dst := some 47, op := Op.call { callee := Callee.value (Operand.func 64), args := #[Operand.tmp 41, Operand.tmp 46], argTypes := #[25, 25] }, type := 4, pos := "term.go:151", after := #[{ on := 0, ground := Ground.data }, { on := 5, ground := Ground.data }], guard := none }) rfl (fun K hK => ?_) AllReadyH.nil
            go_simp
            go_at_call 64
            refine (HI.out _ (HNX.out _ HB.out).1.1 (HNX.out _ HB.out).1.2.1 (HNX.out _ HB.out).1.2.2).mono ?_
            rintro e w8 ⟨rfl, hb7⟩
            have HB := Lib.hid (HB.out.trans (hb7.mono HB.out.size))
            clear hb7
            try go_simp
            refine hK _ _ ((HNX.out _ HB.out).2) ?_
            clear hS
            intro hS
            clear hK K
            refine wpAnyH_take (i := 7) (oi := { dst := some 48, op := Op.unOp UnOp.not 4 (Operand.tmp 47), type := 4, pos := "term.go:151", after := #[{ on := 6, ground := Ground.data }], guard := none }) (v := .bool (!ev)) rfl (by kernel_rfl) (by kernel_rfl) (by kernel_rfl) (fun _ _ _ h => h) (Or.inl ⟨by rfl, ?_⟩) hS ?_
            · intro w9 hSw
              obtain ⟨s0, s1, s2, s3, s4, s5, s6, s7, s8, s9, s10⟩ := hSw
              go_simp
            simp only [Act.put, List.setIfInBounds_toArray, List.set_cons_zero, List.set_cons_succ]
            refine wpAnyH_done (by kernel_rfl) ?_ _
            have hb8 := HW8.out _ HB.out
            have HB8 := Lib.hid (HB1.out.trans (hb8.mono HB1.out.size))
            clear hS
            cases ev with
            | false =>
              have HZ : Hid (sameT a b = false) := Lib.hid (by rw [HE1.out, HD.out, HND.out]; simp)
              clear hb8
              go_wp2_with fail
              go_ret
              exact ⟨ret_bool HZ.out.symm, HB8.out⟩
            | true =>
              obtain ⟨_, _, _, _, z4, zb, _, _, _, _, zr⟩ := (HNX.out _ HB.out).2
              have HOWN := Lib.hid (HO1.out.below hb8)
              have HF8 := Lib.hid ((hb8.block Bx hBxl).trans HF1.out)
              have hBx8 : Bx < w8.heap.size := Nat.lt_of_lt_of_le hBxl hb8.size
              have hlb8 : lb < w8.heap.size := Nat.lt_of_lt_of_le hlw' hb8.size
              have hz8 : w.heap.size ≤ w8.heap.size := Nat.le_trans hzw hb8.size
              have hbq8 : wr.heap.size < w8.heap.size := World.block_lt_of_cell? w8 _ z4
              obtain ⟨bq, hbqe⟩ : ∃ bq, bq = wr.heap.size := ⟨_, rfl⟩
              rw [← hbqe] at z4 hbq8 hgl1 ⊢
              clear hb8 HNX HI HW8 HBQ
              by_cases hqk : 0 < q.kids.length
              · have hd : decide ((0 : Int) < (q.kids.length : Int)) = true := decide_eq_true (by omega)
                have HEN : Hid (sameT a b = (allS (st1 ++ [⟨qAK, qck, q.kids, rAK, rck, r.kids⟩]) && sameL (xl.drop (j + 1)) (xl'.drop (j + 1)))) := Lib.hid (by rw [HE1.out, HD.out, HND.out, allS_snoc, Bool.true_and, Bool.and_assoc])
                have HWN : Hid (wtS (st1 ++ [⟨qAK, qck, q.kids, rAK, rck, r.kids⟩]) + szL (xl.drop (j + 1)) ≤ wtS st0 + szL xl) := Lib.hid (by rw [wtS_snoc]; simp only; omega)
                have HKN : Hid (∀ p ∈ st1 ++ [⟨qAK, qck, q.kids, rAK, rck, r.kids⟩], Pr.ok w B p) := Lib.hid (fun p hp => by
                  rcases List.mem_append.1 hp with hp | hp
                  · exact HK1.out p hp
                  · rw [List.mem_singleton] at hp
                    subst hp
                    exact ⟨HNL.out rfl, HQL.out.1, HQL.out.2⟩)
                have hst : st1.length + 1 ≤ 1000000002 := by omega
                have HZ9 : Hid (((w8.alloc (.cells #[.slice qAK q.kids.length qck, .slice rAK r.kids.length rck] 106)).drew).heap.size = w8.heap.size + 1) := Lib.hid (by show (w8.alloc _).heap.size = _; rw [World.size_alloc])
                have HS0 := Lib.hid (show ∀ w9, Below w8.drew.heap.size w8.drew w9 → w9.cell? ⟨bq, 4, none⟩ = some (.slice qAK q.kids.length qck) ∧ w9.cell? ⟨Bx, 1, none⟩ = some (.slice (some ⟨lb, lo, none⟩) xl'.length xca') ∧ w9.cell? ⟨lb, lo + j * 5 + 4, none⟩ = some (.slice rAK r.kids.length rck) from fun w9 hb => ⟨(hb.cell (p := ⟨bq, 4, none⟩) hbq8).trans z4, (hb.cell (p := ⟨Bx, 1, none⟩) hBx8).trans zb, (hb.cell (p := ⟨lb, lo + j * 5 + 4, none⟩) hlb8).trans zr⟩)
                have HS1 := Lib.hid (show ∀ w9, ((w8.alloc (.cells #[.slice qAK q.kids.length qck, .slice rAK r.kids.length rck] 106)).drew).grownBy w9 (some g1) → w9.cell? ⟨bq, 4, none⟩ = some (.slice qAK q.kids.length qck) ∧ w9.cell? ⟨Bx, 1, none⟩ = some (.slice (some ⟨lb, lo, none⟩) xl'.length xca') ∧ w9.cell? ⟨lb, lo + j * 5 + 4, none⟩ = some (.slice rAK r.kids.length rck) from fun w9 hg => by
                  have hf : ∀ (p : Addr) (v : Value), p.block < w8.heap.size → p.block ≠ g1 → w8.cell? p = some v → w9.cell? p = some v := fun p v hp hne hv => (World.cell?_of_block (hg.block p.block (by rw [HZ9.out]; omega) (fun e => hne (by injection e)))).trans ((World.cell?_alloc_lt w8 _ p hp).trans hv)
                  exact ⟨hf _ _ hbq8 (by show bq ≠ g1; omega) z4, hf _ _ hBx8 (by show Bx ≠ g1; omega) zb, hf _ _ hlb8 (by show lb ≠ g1; omega) zr⟩)
                clear HND HNL HE1 HD HK1 HQL hbqe
                go_wp2_with fail
                refine wp_region_held_drew (S := fun w' => w'.cell? ⟨bq, 4, none⟩ = some (.slice qAK q.kids.length qck) ∧ w'.cell? ⟨Bx, 1, none⟩ = some (.slice (some ⟨lb, lo, none⟩) xl'.length xca') ∧ w'.cell? ⟨lb, lo + j * 5 + 4, none⟩ = some (.slice rAK r.kids.length rck)) (by kernel_rfl) (HS0.out _ (Below.refl _ _)) ?_
                intro hS
                refine wpAnyH_take (i := 0) (oi := { dst := some 53, op := Op.move (Operand.tmp 5), type := 107, pos := "term.go:155", after := #[], guard := none }) (v := .slice (some ⟨g1, 0, none⟩) st1.length c1) rfl (by kernel_rfl) (by kernel_rfl) (by kernel_rfl) (fun _ _ _ h => h) (Or.inl ⟨by rfl, ?_⟩) hS ?_
                · intro w9 hSw
                  obtain ⟨s0, s1, s2⟩ := hSw
                  go_simp
                simp only [Act.put, List.setIfInBounds_toArray, List.set_cons_zero, List.set_cons_succ]
                refine wpAnyH_take (i := 1) (oi := { dst := some 54, op := Op.fieldAddr 25 (Operand.tmp 8) 4, type := 0, pos := "term.go:155", after := #[], guard := none }) (v := .pointer (some ⟨bq, 4, none⟩)) rfl (by kernel_rfl) (by kernel_rfl) (by kernel_rfl) (fun _ _ _ h => h) (Or.inl ⟨by rfl, ?_⟩) hS ?_
                · intro w9 hSw
                  obtain ⟨s0, s1, s2⟩ := hSw
                  go_simp
                simp only [Act.put, List.setIfInBounds_toArray, List.set_cons_zero, List.set_cons_succ]
                refine wpAnyH_take (i := 2) (oi := { dst := some 55, op := Op.load 23 (Operand.tmp 54), type := 23, pos := "term.go:155", after := #[{ on := 1, ground := Ground.data }], guard := none }) (v := .slice qAK q.kids.length qck) rfl (by kernel_rfl) (by kernel_rfl) (by kernel_rfl) (fun _ _ _ h => h) (Or.inl ⟨by rfl, ?_⟩) hS ?_
                · intro w9 hSw
                  obtain ⟨s0, s1, s2⟩ := hSw
                  go_simp
                simp only [Act.put, List.setIfInBounds_toArray, List.set_cons_zero, List.set_cons_succ]
                refine wpAnyH_take (i := 3) (oi := { dst := some 56, op := Op.fieldAddr 106 (Operand.tmp 6) 1, type := 0, pos := "term.go:155", after := #[], guard := none }) (v := .pointer (some ⟨Bx, 1, none⟩)) rfl (by kernel_rfl) (by kernel_rfl) (by kernel_rfl) (fun _ _ _ h => h) (Or.inl ⟨by rfl, ?_⟩) hS ?_
                · intro w9 hSw
                  obtain ⟨s0, s1, s2⟩ := hSw
                  go_simp
                simp only [Act.put, List.setIfInBounds_toArray, List.set_cons_zero, List.set_cons_succ]
                refine wpAnyH_take (i := 4) (oi := { dst := some 57, op := Op.load 23 (Operand.tmp 56), type := 23, pos := "term.go:155", after := #[{ on := 3, ground := Ground.data }], guard := none }) (v := .slice (some ⟨lb, lo, none⟩) xl'.length xca') rfl (by kernel_rfl) (by kernel_rfl) (by kernel_rfl) (fun _ _ _ h => h) (Or.inl ⟨by rfl, ?_⟩) hS ?_
                · intro w9 hSw
                  obtain ⟨s0, s1, s2⟩ := hSw
                  go_simp
                simp only [Act.put, List.setIfInBounds_toArray, List.set_cons_zero, List.set_cons_succ]
                refine wpAnyH_take (i := 5) (oi := { dst := some 58, op := Op.move (Operand.tmp 7), type := 3, pos := "term.go:155", after := #[], guard := none }) (v := .int .i64 j) rfl (by kernel_rfl) (by kernel_rfl) (by kernel_rfl) (fun _ _ _ h => h) (Or.inl ⟨by rfl, ?_⟩) hS ?_
                · intro w9 hSw
                  obtain ⟨s0, s1, s2⟩ := hSw
                  go_simp
                simp only [Act.put, List.setIfInBounds_toArray, List.set_cons_zero, List.set_cons_succ]
                refine wpAnyH_take (i := 6) (oi := { dst := some 59, op := Op.indexAddr 23 (Operand.tmp 57) (Operand.tmp 58), type := 0, pos := "term.go:155", after := #[{ on := 4, ground := Ground.data }, { on := 5, ground := Ground.data }], guard := none }) (v := .pointer (some ⟨lb, lo + j * 5, none⟩)) rfl (by kernel_rfl) (by kernel_rfl) (by kernel_rfl) (fun _ _ _ h => h) (Or.inl ⟨by rfl, ?_⟩) hS ?_
                · intro w9 hSw
                  obtain ⟨s0, s1, s2⟩ := hSw
                  go_simp
                simp only [Act.put, List.setIfInBounds_toArray, List.set_cons_zero, List.set_cons_succ]
                refine wpAnyH_take (i := 7) (oi := { dst := some 60, op := Op.fieldAddr 25 (Operand.tmp 59) 4, type := 0, pos := "term.go:155", after := #[{ on := 6, ground := Ground.data }], guard := none }) (v := .pointer (some ⟨lb, lo + j * 5 + 4, none⟩)) rfl (by kernel_rfl) (by kernel_rfl) (by kernel_rfl) (fun _ _ _ h => h) (Or.inl ⟨by rfl, ?_⟩) hS ?_
                · intro w9 hSw
                  obtain ⟨s0, s1, s2⟩ := hSw
                  go_simp
                simp only [Act.put, List.setIfInBounds_toArray, List.set_cons_zero, List.set_cons_succ]
                refine wpAnyH_take (i := 8) (oi := { dst := some 61, op := Op.load 23 (Operand.tmp 60), type := 23, pos := "term.go:155", after := #[{ on := 7, ground := Ground.data }], guard := none }) (v := .slice rAK r.kids.length rck) rfl (by kernel_rfl) (by kernel_rfl) (by kernel_rfl) (fun _ _ _ h => h) (Or.inl ⟨by rfl, ?_⟩) hS ?_
                · intro w9 hSw
                  obtain ⟨s0, s1, s2⟩ := hSw
                  go_simp
                simp only [Act.put, List.setIfInBounds_toArray, List.set_cons_zero, List.set_cons_succ]
                refine wpAnyH_take (i := 9) (oi := { dst := some 62, op := Op.build 106 #[(0, Operand.tmp 55), (1, Operand.tmp 61)], type := 106, pos := "term.go:155", after := #[{ on := 2, ground := Ground.data }, { on := 8, ground := Ground.data }], guard := none }) (v := .agg #[.slice qAK q.kids.length qck, .slice rAK r.kids.length rck]) rfl (by kernel_rfl) (by kernel_rfl) (by kernel_rfl) (fun _ _ _ h => h) (Or.inl ⟨by rfl, ?_⟩) hS ?_
                · intro w9 hSw
                  obtain ⟨s0, s1, s2⟩ := hSw
                  go_simp
                simp only [Act.put, List.setIfInBounds_toArray, List.set_cons_zero, List.set_cons_succ]
                refine wpAnyH_ready (rs := [10]) (by kernel_rfl) (List.cons_ne_nil _ _) ?_
                refine AllReadyH.cons (o := { dst := some 63, op := Op.buildSlice 107 1 #[(0, Operand.tmp 62)], type := 107, pos := "term.go:155", after := #[{ on := 9, ground := Ground.data }], guard := none }) rfl (fun K hK => ?_) AllReadyH.nil
                go_simp
                refine hK _ _ (HS0.out _ ((Below.refl _ _).alloc (Nat.le_refl _) _)) ?_
                clear hS
                intro hS
                clear hK K
                refine wpAnyH_ready (rs := [11]) (by kernel_rfl) (List.cons_ne_nil _ _) ?_
                refine AllReadyH.cons (o := { dst := some 64, op := Op.call { callee := Callee.builtin Builtin.append, args := #[Operand.tmp 53, Operand.tmp 63], argTypes := #[107, 107] }, type := 107, pos := "term.go:155", after := #[{ on := 0, ground := Ground.data }, { on := 10, ground := Ground.data }], guard := none }) rfl (fun K hK => ?_) AllReadyH.nil
                refine step_append_lies _ rfl (.tmp 53) (.tmp 63) 107 rfl w.heap.size 106 i0 (.agg #[.slice none 0 0, .slice none 0 0]) 2 48 Tryd.underlying107 hi hz0 hz1 hz2 rfl (by decide) (.slice (some ⟨g1, 0, none⟩) st1.length c1) st1.length (flatP st1) (by simp [Act.eval]) (World.ownsRow.alloc (World.ownsRow.drew HOWN.out) _) ⟨w8.heap.size, 0, none⟩ 1 1 [.slice qAK q.kids.length qck, .slice rAK r.kids.length rck] (by simp [Act.eval]) rfl ?qn ?q1 (by decide) ?qm ?qb ?qs _ rfl ?_
                case qn => exact cell_two_new w8 _ _ _
                case q1 => intro u hu; simp at hu; rcases hu with rfl | rfl <;> rfl
                case qm => unfold maxLen; omega
                case qb => omega
                case qs => rw [HZ9.out]; omega
                intro g2 c2 w9 hown hgrow hwhere hlt2
                refine hK _ _ (HS1.out _ hgrow) ?_
                clear hS
                intro hS
                clear hK K
                refine wpAnyH_take (i := 12) (oi := { dst := some 5, op := Op.assign (Operand.tmp 64), type := 107, pos := "term.go:155", after := #[{ on := 11, ground := Ground.data }, { on := 11, ground := Ground.chain }, { on := 0, ground := Ground.phase }, { on := 1, ground := Ground.phase }, { on := 2, ground := Ground.phase }, { on := 3, ground := Ground.phase }, { on := 4, ground := Ground.phase }, { on := 5, ground := Ground.phase }, { on := 6, ground := Ground.phase }, { on := 7, ground := Ground.phase }, { on := 8, ground := Ground.phase }, { on := 9, ground := Ground.phase }, { on := 10, ground := Ground.phase }, { on := 11, ground := Ground.phase }], guard := none }) (v := .slice (some ⟨g2, 0, none⟩) (st1.length + 1) c2) rfl (by kernel_rfl) (by kernel_rfl) (by kernel_rfl) (fun _ _ _ h => h) (Or.inl ⟨by rfl, ?_⟩) hS ?_
                · intro w9 hSw
                  obtain ⟨s0, s1, s2⟩ := hSw
                  go_simp
                simp only [Act.put, List.setIfInBounds_toArray, List.set_cons_zero, List.set_cons_succ]
                refine wpAnyH_done (by kernel_rfl) ?_ _
                have hbN : Below w.heap.size w w9 := (HB8.out.trans (show Below w.heap.size w8 ((w8.alloc (.cells #[.slice qAK q.kids.length qck, .slice rAK r.kids.length rck] 106)).drew) from (Below.drewN' ((Below.refl w.heap.size w8).alloc hz8 (.cells #[.slice qAK q.kids.length qck, .slice rAK r.kids.length rck] 106)) 1))).grown hgrow (by rw [HZ9.out]; omega) (fun z hz => by have hz' : some g1 = some z := hz; injection hz' with hz'; omega)
                have hFN := (hgrow.block Bx (by rw [HZ9.out]; omega) (fun e => by injection e with e; exact hgB1 e.symm)).trans ((Below.heap_alloc w8 (.cells #[.slice qAK q.kids.length qck, .slice rAK r.kids.length rck] 106) Bx hBx8).trans HF8.out)
                have hgN : g2 ≠ Bx := by
                  rcases hwhere with e | e
                  · have e' : some g1 = some g2 := e
                    injection e' with e'
                    omega
                  · rw [HZ9.out] at e
                    omega
                have HN := Lib.hid (And.intro hbN (And.intro hFN (StkP.snoc (p := ⟨qAK, qck, q.kids, rAK, rck, r.kids⟩) hown)))
                clear hS hbN hFN hown hgrow hwhere
                go_wp2_with fail
                go_roundw
                case rel => exact ⟨j + 1, st1 ++ [⟨qAK, qck, q.kids, rAK, rck, r.kids⟩], g2, c2, hjl, by rw [List.length_append]; rfl, by go_num, hgN, Lib.hid (by rw [List.length_append]; exact HN.out.2.2), HKN, HEN, HWN.out, Lib.hid HN.out.1, Lib.hid HN.out.2.1⟩
                case measure => simp [intOf]; omega
              · have hq0 : q.kids = [] := List.eq_nil_of_length_eq_zero (by omega)
                have HEN : Hid (sameT a b = (allS st1 && sameL (xl.drop (j + 1)) (xl'.drop (j + 1)))) := Lib.hid (by rw [HE1.out, HD.out, HND.out, hq0, sameL, Bool.true_and, Bool.true_and])
                have hq00 : q.kids.length = 0 := by omega
                rw [hq00] at z4
                have hwn : wtS st1 + szL (xl.drop (j + 1)) ≤ wtS st0 + szL xl := by omega
                clear hq0 hq00 hqk HND HNL HE1 HD hql hbqe
                go_wp2_with fail
                go_roundw
                case rel => exact ⟨j + 1, st1, g1, c1, hjl, rfl, by go_num, hgB1, HOWN, HK1, HEN, hwn, HB8, HF8⟩
                case measure => simp [intOf]; omega
          · have he : xl.drop j = [] := List.drop_of_length_le (by omega)
            have HZ : Hid (sameT a b = allS st1) := Lib.hid (by rw [HE1.out, he, sameL, Bool.and_true])
            rw [he, szL] at hwt1
            have hji : decide ((j : Int) < (xl.length : Int)) = false := by rw [decide_eq_false_iff_not]; omega
            clear he
            go_wp2_with fail
            go_roundg (wtS st1)
            case measure => omega
            case rel => exact ⟨g1, c1, st1, rfl, HO1, HK1, HZ, Nat.le_refl _, by omega, HB1.out⟩
end Go.Proofs.YtobaeeobfcffoaaDoor
