/- Same of the reference. -/
import Derived.Test.YtobaeeobfcffoaaDoorSnd
import Derived.Test.YtobaeeobfcffoaaDoorRck
namespace Go.Proofs.YtobaeeobfcffoaaDoor
open Go.RowKit

mutual
/-- Two terms are equal. -/
def sameT : Tm → Tm → Bool
  | .mk k i nm ls ks, .mk k' i' nm' ls' ks' => decide (k = k') && (decide (i = i') && (decide (nm = nm') && (decide (ls = ls') && (decide (ks.length = ks'.length) && sameL ks ks'))))
def sameL : List Tm → List Tm → Bool
  | t :: r, t' :: r' => sameT t t' && sameL r r'
  | [], _ => true
  | _ :: _, [] => true
end
theorem sameT_mk {k i k' i' : Int} {nm nm' : ByteArray} {ls ls' : List (Int × List (Int × Int))} {ks ks' : List Tm} : sameT (.mk k i nm ls ks) (.mk k' i' nm' ls' ks') = (decide (k = k') && (decide (i = i') && (decide (nm = nm') && (decide (ls = ls') && (decide (ks.length = ks'.length) && sameL ks ks'))))) := by rw [sameT]
mutual
theorem sameT_self : ∀ t : Tm, sameT t t = true
  | .mk k i nm ls ks => by rw [sameT_mk, sameL_self ks]; simp
theorem sameL_self : ∀ ks : List Tm, sameL ks ks = true
  | [] => by rw [sameL]
  | t :: r => by rw [sameL, sameT_self t, sameL_self r]; rfl
end
mutual
theorem sameT_swap : ∀ a b : Tm, sameT a b = sameT b a
  | .mk k i nm ls ks, .mk k' i' nm' ls' ks' => by
    rw [sameT_mk, sameT_mk, sameL_swap ks ks', decide_eq_decide.2 (eq_comm (a := k) (b := k')), decide_eq_decide.2 (eq_comm (a := i) (b := i')), decide_eq_decide.2 (eq_comm (a := nm) (b := nm')), decide_eq_decide.2 (eq_comm (a := ls) (b := ls')), decide_eq_decide.2 (eq_comm (a := ks.length) (b := ks'.length))]
theorem sameL_swap : ∀ a b : List Tm, sameL a b = sameL b a
  | [], [] => rfl
  | [], _ :: _ => by rw [sameL, sameL]
  | _ :: _, [] => by rw [sameL, sameL]
  | t :: r, t' :: r' => by rw [sameL, sameL, sameT_swap t t', sameL_swap r r']
end
theorem sameL_drop {a b : List Tm} {j : Nat} (h1 : j < a.length) (h2 : j < b.length) : sameL (a.drop j) (b.drop j) = (sameT a[j] b[j] && sameL (a.drop (j + 1)) (b.drop (j + 1))) := by
  rw [← List.getElem_cons_drop h1, ← List.getElem_cons_drop h2, sameL]

/-- Two terms in their boxes. -/
structure TwT (w : World) (B : Nat) (s t : Tm) (c0 c1 c2 c3 c4 e0 e1 e2 e3 e4 : Value) (wx : World) : Prop where
  x0 : wx.cell? ⟨w.heap.size, 0, none⟩ = some c0
  x1 : wx.cell? ⟨w.heap.size, 1, none⟩ = some c1
  x2 : wx.cell? ⟨w.heap.size, 2, none⟩ = some c2
  x3 : wx.cell? ⟨w.heap.size, 3, none⟩ = some c3
  x4 : wx.cell? ⟨w.heap.size, 4, none⟩ = some c4
  y0 : wx.cell? ⟨w.heap.size + 1, 0, none⟩ = some e0
  y1 : wx.cell? ⟨w.heap.size + 1, 1, none⟩ = some e1
  y2 : wx.cell? ⟨w.heap.size + 1, 2, none⟩ = some e2
  y3 : wx.cell? ⟨w.heap.size + 1, 3, none⟩ = some e3
  y4 : wx.cell? ⟨w.heap.size + 1, 4, none⟩ = some e4
  tm : TmV wx B s (.agg #[c0, c1, c2, c3, c4])
  tn : TmV wx B t (.agg #[e0, e1, e2, e3, e4])
  below : Below w.heap.size w wx
  size : B ≤ wx.heap.size
  sz : w.heap.size + 1 < wx.heap.size
namespace TwT
variable {w wx wy : World} {B : Nat} {s t : Tm} {c0 c1 c2 c3 c4 e0 e1 e2 e3 e4 : Value}
theorem next (h : TwT w B s t c0 c1 c2 c3 c4 e0 e1 e2 e3 e4 wx) (hb : Below wx.heap.size wx wy) : TwT w B s t c0 c1 c2 c3 c4 e0 e1 e2 e3 e4 wy := by
  have hk : ∀ (p : Addr) (v : Value), wx.cell? p = some v → wy.cell? p = some v := fun p v hv => (hb.cell (World.block_lt_of_cell? wx p hv)).trans hv
  exact ⟨hk _ _ h.x0, hk _ _ h.x1, hk _ _ h.x2, hk _ _ h.x3, hk _ _ h.x4, hk _ _ h.y0, hk _ _ h.y1, hk _ _ h.y2, hk _ _ h.y3, hk _ _ h.y4, h.tm.below hb h.size, h.tn.below hb h.size, h.below.trans (hb.mono (by have := h.sz; omega)), Nat.le_trans h.size hb.size, Nat.lt_of_lt_of_le h.sz hb.size⟩
theorem start (hs : TmV w B s (.agg #[c0, c1, c2, c3, c4])) (ht : TmV w B t (.agg #[e0, e1, e2, e3, e4])) (hB : B ≤ w.heap.size) : TwT w B s t c0 c1 c2 c3 c4 e0 e1 e2 e3 e4 ((w.alloc (.cells #[c0, c1, c2, c3, c4] 25)).alloc (.cells #[e0, e1, e2, e3, e4] 25)) := by
  have hn := World.alloc_heap_new w (.cells #[c0, c1, c2, c3, c4] 25)
  have hm := World.alloc_heap_new (w.alloc (.cells #[c0, c1, c2, c3, c4] 25)) (.cells #[e0, e1, e2, e3, e4] 25)
  rw [World.size_alloc] at hm
  have hq := (Below.heap_alloc (w.alloc (.cells #[c0, c1, c2, c3, c4] 25)) (.cells #[e0, e1, e2, e3, e4] 25) w.heap.size (by simp)).trans hn
  have hb : Below w.heap.size w ((w.alloc (.cells #[c0, c1, c2, c3, c4] 25)).alloc (.cells #[e0, e1, e2, e3, e4] 25)) := ((Below.refl _ _).alloc (Nat.le_refl _) _).alloc (by simp) _
  exact ⟨cell_of_row _ _ 0 _ _ _ hq, cell_of_row _ _ 1 _ _ _ hq, cell_of_row _ _ 2 _ _ _ hq, cell_of_row _ _ 3 _ _ _ hq, cell_of_row _ _ 4 _ _ _ hq, cell_of_row _ _ 0 _ _ _ hm, cell_of_row _ _ 1 _ _ _ hm, cell_of_row _ _ 2 _ _ _ hm, cell_of_row _ _ 3 _ _ _ hm, cell_of_row _ _ 4 _ _ _ hm, hs.below hb hB, ht.below hb hB, hb, by simp; omega, by simp⟩
end TwT

set_option maxRecDepth 100000 in
set_option maxHeartbeats 8000000 in
theorem rsameT_any : ∀ (n : Nat) (a b : Tm) (va vb : Value) (B : Nat) (w : World), szT a ≤ n → TmV w B a va → TmV w B b vb → B ≤ w.heap.size →
    Calls Tryd.prog 14 #[va, vb] w fun e w' => e = .returned (.bool (sameT a b)) ∧ Below w.heap.size w w' := by
  intro n
  induction n with
  | zero => intro a b va vb B w h; have := szT_pos a; omega
  | succ n ih =>
  intro a b va vb B w hsz hva hvb hB
  have hva' := hva
  have hvb' := hvb
  cases a with
  | mk k1 i1 n1 l1 ks1 =>
  cases b with
  | mk k2 i2 n2 l2 ks2 =>
  rw [TmV] at hva hvb
  obtain ⟨AL1, cl1, AK1, ck1, rfl, hl1, hz1, _⟩ := hva
  obtain ⟨AL2, cl2, AK2, ck2, rfl, hl2, hz2, _⟩ := hvb
  have T0 := Lib.hid (TwT.start hva' hvb' hB)
  have hbb := T0.out.below
  have H1 := Lib.hid (hl1.below hbb hB)
  have H2 := Lib.hid (hl2.below hbb hB)
  have HB := Lib.hid hbb
  have hz1' : ks1.length ≤ 1759218604441 := by omega
  have hz2' : ks2.length ≤ 1759218604441 := by omega
  have HSZ := Lib.hid (show szL ks1 ≤ n by rw [szT] at hsz; omega)
  have IH := Lib.hid ih
  clear hl1 hl2 hbb hz1 hz2 hva' hvb' hsz ih
  by_cases hk : k1 = k2
  case neg =>
    have d : (k1 == k2) = false := by simpa using hk
    have d' : (k1 != k2) = true := by simpa using hk
    rw [sameT_mk, decide_eq_false hk, Bool.false_and]
    clear hk
    go_enter Tryd.func14, Tryd.ntmps14
    go_wp2_with fail
    go_ret
    exact ⟨rfl, HB.out⟩
  subst hk
  by_cases hk : i1 = i2
  case neg =>
    have d : (i1 == i2) = false := by simpa using hk
    have d' : (i1 != i2) = true := by simpa using hk
    rw [sameT_mk, decide_eq_false hk, decide_eq_true rfl, Bool.false_and, Bool.and_false]
    clear hk
    go_enter Tryd.func14, Tryd.ntmps14
    go_wp2_with fail
    go_ret
    exact ⟨rfl, HB.out⟩
  subst hk
  by_cases hk : n1 = n2
  case neg =>
    have d : (n1.toList == n2.toList) = false := str_ne hk
    have d' : (n1.toList != n2.toList) = true := by rw [bne, d]; rfl
    rw [sameT_mk, decide_eq_false hk, decide_eq_true rfl, decide_eq_true rfl, Bool.false_and, Bool.and_false, Bool.and_false]
    clear hk
    go_enter Tryd.func14, Tryd.ntmps14
    go_wp2_with fail
    go_ret
    exact ⟨rfl, HB.out⟩
  subst hk
  obtain ⟨x0, x1, x2, x3, x4, y0, y1, y2, y3, y4, _, _, _, _, hz0⟩ := T0.out
  have HT : Hid (sameT (.mk k1 i1 n1 l1 ks1) (.mk k1 i1 n1 l2 ks2) = (decide (l1 = l2) && (decide (ks1.length = ks2.length) && sameL ks1 ks2))) := Lib.hid (by rw [sameT_mk, decide_eq_true rfl, decide_eq_true rfl, decide_eq_true rfl, Bool.true_and, Bool.true_and, Bool.true_and])
  go_enter Tryd.func14, Tryd.ntmps14
  go_wp2_with fail
  refine (rsamelists_any l1 l2 AL1 AL2 cl1 cl2 B _ H1.out H2.out T0.out.size).mono ?_
  rintro e w1 ⟨rfl, hb1⟩
  have T1 := Lib.hid (T0.out.next hb1)
  clear hb1 x0 x1 x2 x3 x4 y0 y1 y2 y3 y4 T0 H1 H2 HB
  obtain ⟨x0, x1, x2, x3, x4, y0, y1, y2, y3, y4, _, _, _, _, _⟩ := T1.out
  by_cases hl : l1 = l2
  case neg =>
    have HD := Lib.hid (decide_eq_false hl)
    rw [HD.out]
    have HC : Hid (sameT (.mk k1 i1 n1 l1 ks1) (.mk k1 i1 n1 l2 ks2) = false) := Lib.hid (by rw [HT.out, HD.out]; rfl)
    clear hl
    go_wp2_with fail
    go_ret
    exact ⟨ret_bool HC.out.symm, T1.out.below⟩
  have HD := Lib.hid (decide_eq_true hl)
  rw [HD.out]
  clear hl
  by_cases hkl : ks1.length = ks2.length
  case neg =>
    have d : ((ks1.length : Int) == (ks2.length : Int)) = false := by rw [beq_eq_false_iff_ne]; omega
    have d' : ((ks1.length : Int) != (ks2.length : Int)) = true := by rw [bne, d]; rfl
    have HC : Hid (sameT (.mk k1 i1 n1 l1 ks1) (.mk k1 i1 n1 l2 ks2) = false) := Lib.hid (by rw [HT.out, decide_eq_false hkl, Bool.false_and, Bool.and_false])
    clear hkl
    go_wp2_with fail
    go_ret
    exact ⟨ret_bool HC.out.symm, T1.out.below⟩
  have d : ((ks1.length : Int) == (ks2.length : Int)) = true := by rw [beq_iff_eq]; omega
  have d' : ((ks1.length : Int) != (ks2.length : Int)) = false := by rw [bne, d]; rfl
  have HC : Hid (sameT (.mk k1 i1 n1 l1 ks1) (.mk k1 i1 n1 l2 ks2) = sameL ks1 ks2) := Lib.hid (by rw [HT.out, HD.out, decide_eq_true hkl, Bool.true_and, Bool.true_and])
  have HKL := Lib.hid hkl
  clear hkl HT HD
  go_wp2_with fail
  go_loopw [5] (fun s5 wx => ∃ j : Nat, j ≤ ks1.length ∧ s5 = .int .i64 (j : Int) ∧ Hid (sameL ks1 ks2 = sameL (ks1.drop j) (ks2.drop j)) ∧ TwT w B (.mk k1 i1 n1 l1 ks1) (.mk k1 i1 n1 l2 ks2) (.int .i64 k1) (.int .i64 i1) (.string n1) (.slice AL1 l1.length cl1) (.slice AK1 ks1.length ck1) (.int .i64 k1) (.int .i64 i1) (.string n1) (.slice AL2 l2.length cl2) (.slice AK2 ks2.length ck2) wx) (fun s5 _ => ks1.length - (intOf s5).toNat)
  case atStart => exact ⟨0, Nat.zero_le _, rfl, Lib.hid rfl, T1.out⟩
  case round =>
    obtain ⟨j, hj, rfl, HJ, hS⟩ := hrel
    have HS := Lib.hid hS
    clear x0 x1 x2 x3 x4 y0 y1 y2 y3 y4 T1 d d'
    obtain ⟨x0, x1, x2, x3, x4, y0, y1, y2, y3, y4, htm, htn, hbl, hsz, hszw⟩ := hS
    by_cases hjl : j < ks1.length
    · have hjl2 : j < ks2.length := by have := HKL.out; omega
      rw [TmV] at htm htn
      obtain ⟨_, _, AK1', ck1', hve, _, _, hks⟩ := htm
      simp only [Value.agg.injEq, Array.mk.injEq, List.cons.injEq, Value.slice.injEq, and_true, true_and] at hve
      obtain ⟨⟨rfl, rfl⟩, rfl, rfl⟩ := hve
      obtain ⟨kb, ko, rfl, hkb, hkc⟩ := hks (by omega)
      obtain ⟨d0, d1, d2, d3, d4, p0, p1, p2, p3, p4, hq⟩ := hkc.at_ (List.getElem?_eq_getElem hjl)
      obtain ⟨_, _, AK2', ck2', hve, _, _, hks2⟩ := htn
      simp only [Value.agg.injEq, Array.mk.injEq, List.cons.injEq, Value.slice.injEq, and_true, true_and] at hve
      obtain ⟨⟨rfl, rfl⟩, rfl, rfl⟩ := hve
      obtain ⟨lb, lo, rfl, hlb, hlc⟩ := hks2 (by omega)
      obtain ⟨e0, e1, e2, e3, e4, r0, r1, r2, r3, r4, hr⟩ := hlc.at_ (List.getElem?_eq_getElem hjl2)
      have HQ := Lib.hid hq
      have HR := Lib.hid hr
      have HD := Lib.hid (sameL_drop hjl hjl2)
      have hst := szL_mem (List.getElem_mem hjl)
      have hszq : szT ks1[j] ≤ n := by have := HSZ.out; omega
      generalize hgq : ks1[j] = q at *
      generalize hgr : ks2[j] = r at *
      clear hgq hgr hst hq hr hkc hks hlc hks2
      obtain ⟨ev, hev⟩ : ∃ ev, sameT q r = ev := ⟨_, rfl⟩
      rw [hev] at HD
      go_wp2_with fail
      have HB := Lib.hid (Below.refl wr.drew.heap.size wr.drew)
      have HNX := Lib.hid (show ∀ w9, Below wr.drew.heap.size wr.drew w9 → TwT w B (.mk k1 i1 n1 l1 ks1) (.mk k1 i1 n1 l2 ks2) (.int .i64 k1) (.int .i64 i1) (.string n1) (.slice AL1 l1.length cl1) (.slice (some ⟨kb, ko, none⟩) ks1.length ck1) (.int .i64 k1) (.int .i64 i1) (.string n1) (.slice AL2 l2.length cl2) (.slice (some ⟨lb, lo, none⟩) ks2.length ck2) w9 ∧ (TmV w9 B q (.agg #[d0, d1, d2, d3, d4]) ∧ TmV w9 B r (.agg #[e0, e1, e2, e3, e4])) ∧ w9.cell? ⟨w.heap.size, 4, none⟩ = some (.slice (some ⟨kb, ko, none⟩) ks1.length ck1) ∧ w9.cell? ⟨w.heap.size + 1, 4, none⟩ = some (.slice (some ⟨lb, lo, none⟩) ks2.length ck2) ∧ w9.cell? ⟨kb, ko + j * 5, none⟩ = some d0 ∧ w9.cell? ⟨kb, ko + j * 5 + 1, none⟩ = some d1 ∧ w9.cell? ⟨kb, ko + j * 5 + 2, none⟩ = some d2 ∧ w9.cell? ⟨kb, ko + j * 5 + 3, none⟩ = some d3 ∧ w9.cell? ⟨kb, ko + j * 5 + 4, none⟩ = some d4 ∧ w9.cell? ⟨lb, lo + j * 5, none⟩ = some e0 ∧ w9.cell? ⟨lb, lo + j * 5 + 1, none⟩ = some e1 ∧ w9.cell? ⟨lb, lo + j * 5 + 2, none⟩ = some e2 ∧ w9.cell? ⟨lb, lo + j * 5 + 3, none⟩ = some e3 ∧ w9.cell? ⟨lb, lo + j * 5 + 4, none⟩ = some e4 from fun w9 hb => by
        have hb' : Below wr.heap.size wr w9 := ⟨hb.os, hb.tape, hb.output, hb.size, hb.block⟩
        have hkl' : kb < wr.heap.size := by omega
        have hll' : lb < wr.heap.size := by omega
        have hT := HS.out.next hb'
        exact ⟨hT, ⟨HQ.out.below hb' hsz, HR.out.below hb' hsz⟩, hT.x4, hT.y4, (hb'.cell (p := ⟨kb, ko + j * 5, none⟩) hkl').trans p0, (hb'.cell (p := ⟨kb, ko + j * 5 + 1, none⟩) hkl').trans p1, (hb'.cell (p := ⟨kb, ko + j * 5 + 2, none⟩) hkl').trans p2, (hb'.cell (p := ⟨kb, ko + j * 5 + 3, none⟩) hkl').trans p3, (hb'.cell (p := ⟨kb, ko + j * 5 + 4, none⟩) hkl').trans p4, (hb'.cell (p := ⟨lb, lo + j * 5, none⟩) hll').trans r0, (hb'.cell (p := ⟨lb, lo + j * 5 + 1, none⟩) hll').trans r1, (hb'.cell (p := ⟨lb, lo + j * 5 + 2, none⟩) hll').trans r2, (hb'.cell (p := ⟨lb, lo + j * 5 + 3, none⟩) hll').trans r3, (hb'.cell (p := ⟨lb, lo + j * 5 + 4, none⟩) hll').trans r4⟩)
      have HI := Lib.hid (show ∀ W, TmV W B q (.agg #[d0, d1, d2, d3, d4]) → TmV W B r (.agg #[e0, e1, e2, e3, e4]) → B ≤ W.heap.size → Calls Tryd.prog 14 #[.agg #[d0, d1, d2, d3, d4], .agg #[e0, e1, e2, e3, e4]] W fun e w' => e = .returned (.bool ev) ∧ Below W.heap.size W w' from fun W hq hr hBW => by
        have h := IH.out q r _ _ B W hszq hq hr hBW
        rw [hev] at h
        exact h)
      have HRK := Lib.hid (And.intro hbl (And.intro hsz hszw))
      clear x0 x1 x2 x3 y0 y1 y2 y3 hev
      refine wp_region_held_drew (S := fun w' => w'.cell? ⟨w.heap.size, 4, none⟩ = some (.slice (some ⟨kb, ko, none⟩) ks1.length ck1) ∧ w'.cell? ⟨w.heap.size + 1, 4, none⟩ = some (.slice (some ⟨lb, lo, none⟩) ks2.length ck2) ∧ w'.cell? ⟨kb, ko + j * 5, none⟩ = some d0 ∧ w'.cell? ⟨kb, ko + j * 5 + 1, none⟩ = some d1 ∧ w'.cell? ⟨kb, ko + j * 5 + 2, none⟩ = some d2 ∧ w'.cell? ⟨kb, ko + j * 5 + 3, none⟩ = some d3 ∧ w'.cell? ⟨kb, ko + j * 5 + 4, none⟩ = some d4 ∧ w'.cell? ⟨lb, lo + j * 5, none⟩ = some e0 ∧ w'.cell? ⟨lb, lo + j * 5 + 1, none⟩ = some e1 ∧ w'.cell? ⟨lb, lo + j * 5 + 2, none⟩ = some e2 ∧ w'.cell? ⟨lb, lo + j * 5 + 3, none⟩ = some e3 ∧ w'.cell? ⟨lb, lo + j * 5 + 4, none⟩ = some e4) (by kernel_rfl) ((HNX.out _ HB.out).2.2) ?_
      intro hS
      refine wpAnyH_take (i := 0) (oi := { dst := some 49, op := Op.fieldAddr 25 (Operand.tmp 2) 4, type := 0, pos := "ref.go:146", after := #[], guard := none }) (v := .pointer (some ⟨w.heap.size, 4, none⟩)) rfl (by kernel_rfl) (by kernel_rfl) (by kernel_rfl) (fun _ _ _ h => h) (Or.inl ⟨by rfl, ?_⟩) hS ?_
      · intro w9 hSw
        obtain ⟨s0, s1, s2, s3, s4, s5, s6, s7, s8, s9, s10, s11⟩ := hSw
        go_simp
      simp only [Act.put, List.setIfInBounds_toArray, List.set_cons_zero, List.set_cons_succ]
      refine wpAnyH_take (i := 1) (oi := { dst := some 50, op := Op.load 23 (Operand.tmp 49), type := 23, pos := "ref.go:146", after := #[{ on := 0, ground := Ground.data }], guard := none }) (v := .slice (some ⟨kb, ko, none⟩) ks1.length ck1) rfl (by kernel_rfl) (by kernel_rfl) (by kernel_rfl) (fun _ _ _ h => h) (Or.inl ⟨by rfl, ?_⟩) hS ?_
      · intro w9 hSw
        obtain ⟨s0, s1, s2, s3, s4, s5, s6, s7, s8, s9, s10, s11⟩ := hSw
        go_simp
      simp only [Act.put, List.setIfInBounds_toArray, List.set_cons_zero, List.set_cons_succ]
      refine wpAnyH_take (i := 2) (oi := { dst := some 51, op := Op.move (Operand.tmp 5), type := 3, pos := "ref.go:146", after := #[], guard := none }) (v := .int .i64 j) rfl (by kernel_rfl) (by kernel_rfl) (by kernel_rfl) (fun _ _ _ h => h) (Or.inl ⟨by rfl, ?_⟩) hS ?_
      · intro w9 hSw
        obtain ⟨s0, s1, s2, s3, s4, s5, s6, s7, s8, s9, s10, s11⟩ := hSw
        go_simp
      simp only [Act.put, List.setIfInBounds_toArray, List.set_cons_zero, List.set_cons_succ]
      refine wpAnyH_take (i := 3) (oi := { dst := some 52, op := Op.indexAddr 23 (Operand.tmp 50) (Operand.tmp 51), type := 0, pos := "ref.go:146", after := #[{ on := 1, ground := Ground.data }, { on := 2, ground := Ground.data }], guard := none }) (v := .pointer (some ⟨kb, ko + j * 5, none⟩)) rfl (by kernel_rfl) (by kernel_rfl) (by kernel_rfl) (fun _ _ _ h => h) (Or.inl ⟨by rfl, ?_⟩) hS ?_
      · intro w9 hSw
        obtain ⟨s0, s1, s2, s3, s4, s5, s6, s7, s8, s9, s10, s11⟩ := hSw
        go_simp
      simp only [Act.put, List.setIfInBounds_toArray, List.set_cons_zero, List.set_cons_succ]
      refine wpAnyH_take (i := 4) (oi := { dst := some 53, op := Op.load 25 (Operand.tmp 52), type := 25, pos := "ref.go:146", after := #[{ on := 3, ground := Ground.data }], guard := none }) (v := .agg #[d0, d1, d2, d3, d4]) rfl (by kernel_rfl) (by kernel_rfl) (by kernel_rfl) (fun _ _ _ h => h) (Or.inl ⟨by rfl, ?_⟩) hS ?_
      · intro w9 hSw
        obtain ⟨s0, s1, s2, s3, s4, s5, s6, s7, s8, s9, s10, s11⟩ := hSw
        go_simp
      simp only [Act.put, List.setIfInBounds_toArray, List.set_cons_zero, List.set_cons_succ]
      refine wpAnyH_take (i := 5) (oi := { dst := some 54, op := Op.fieldAddr 25 (Operand.tmp 3) 4, type := 0, pos := "ref.go:146", after := #[], guard := none }) (v := .pointer (some ⟨w.heap.size + 1, 4, none⟩)) rfl (by kernel_rfl) (by kernel_rfl) (by kernel_rfl) (fun _ _ _ h => h) (Or.inl ⟨by rfl, ?_⟩) hS ?_
      · intro w9 hSw
        obtain ⟨s0, s1, s2, s3, s4, s5, s6, s7, s8, s9, s10, s11⟩ := hSw
        go_simp
      simp only [Act.put, List.setIfInBounds_toArray, List.set_cons_zero, List.set_cons_succ]
      refine wpAnyH_take (i := 6) (oi := { dst := some 55, op := Op.load 23 (Operand.tmp 54), type := 23, pos := "ref.go:146", after := #[{ on := 5, ground := Ground.data }], guard := none }) (v := .slice (some ⟨lb, lo, none⟩) ks2.length ck2) rfl (by kernel_rfl) (by kernel_rfl) (by kernel_rfl) (fun _ _ _ h => h) (Or.inl ⟨by rfl, ?_⟩) hS ?_
      · intro w9 hSw
        obtain ⟨s0, s1, s2, s3, s4, s5, s6, s7, s8, s9, s10, s11⟩ := hSw
        go_simp
      simp only [Act.put, List.setIfInBounds_toArray, List.set_cons_zero, List.set_cons_succ]
      refine wpAnyH_take (i := 7) (oi := { dst := some 56, op := Op.move (Operand.tmp 5), type := 3, pos := "ref.go:146", after := #[], guard := none }) (v := .int .i64 j) rfl (by kernel_rfl) (by kernel_rfl) (by kernel_rfl) (fun _ _ _ h => h) (Or.inl ⟨by rfl, ?_⟩) hS ?_
      · intro w9 hSw
        obtain ⟨s0, s1, s2, s3, s4, s5, s6, s7, s8, s9, s10, s11⟩ := hSw
        go_simp
      simp only [Act.put, List.setIfInBounds_toArray, List.set_cons_zero, List.set_cons_succ]
      refine wpAnyH_take (i := 8) (oi := { dst := some 57, op := Op.indexAddr 23 (Operand.tmp 55) (Operand.tmp 56), type := 0, pos := "ref.go:146", after := #[{ on := 6, ground := Ground.data }, { on := 7, ground := Ground.data }], guard := none }) (v := .pointer (some ⟨lb, lo + j * 5, none⟩)) rfl (by kernel_rfl) (by kernel_rfl) (by kernel_rfl) (fun _ _ _ h => h) (Or.inl ⟨by rfl, ?_⟩) hS ?_
      · intro w9 hSw
        obtain ⟨s0, s1, s2, s3, s4, s5, s6, s7, s8, s9, s10, s11⟩ := hSw
        go_simp
      simp only [Act.put, List.setIfInBounds_toArray, List.set_cons_zero, List.set_cons_succ]
      refine wpAnyH_take (i := 9) (oi := { dst := some 58, op := Op.load 25 (Operand.tmp 57), type := 25, pos := "ref.go:146", after := #[{ on := 8, ground := Ground.data }], guard := none }) (v := .agg #[e0, e1, e2, e3, e4]) rfl (by kernel_rfl) (by kernel_rfl) (by kernel_rfl) (fun _ _ _ h => h) (Or.inl ⟨by rfl, ?_⟩) hS ?_
      · intro w9 hSw
        obtain ⟨s0, s1, s2, s3, s4, s5, s6, s7, s8, s9, s10, s11⟩ := hSw
        go_simp
      simp only [Act.put, List.setIfInBounds_toArray, List.set_cons_zero, List.set_cons_succ]
      refine wpAnyH_ready (rs := [10]) (by kernel_rfl) (List.cons_ne_nil _ _) ?_
      refine AllReadyH.cons (o := { dst := some 59, op := Op.call { callee := Callee.value (Operand.func 14), args := #[Operand.tmp 53, Operand.tmp 58], argTypes := #[25, 25] }, type := 4, pos := "ref.go:146", after := #[{ on := 4, ground := Ground.data }, { on := 9, ground := Ground.data }], guard := none }) rfl (fun K hK => ?_) AllReadyH.nil
      go_simp
      go_at_call 14
      refine (HI.out _ (HNX.out _ HB.out).2.1.1 (HNX.out _ HB.out).2.1.2 (HNX.out _ HB.out).1.size).mono ?_
      rintro e w8 ⟨rfl, hb7⟩
      have HB := Lib.hid (HB.out.trans (hb7.mono HB.out.size))
      clear hb7
      try go_simp
      refine hK _ _ ((HNX.out _ HB.out).2.2) ?_
      clear hS
      intro hS
      clear hK K
      refine wpAnyH_take (i := 11) (oi := { dst := some 60, op := Op.unOp UnOp.not 4 (Operand.tmp 59), type := 4, pos := "ref.go:146", after := #[{ on := 10, ground := Ground.data }], guard := none }) (v := .bool (!ev)) rfl (by kernel_rfl) (by kernel_rfl) (by kernel_rfl) (fun _ _ _ h => h) (Or.inl ⟨by rfl, ?_⟩) hS ?_
      · intro w9 hSw
        obtain ⟨s0, s1, s2, s3, s4, s5, s6, s7, s8, s9, s10, s11⟩ := hSw
        go_simp
      simp only [Act.put, List.setIfInBounds_toArray, List.set_cons_zero, List.set_cons_succ]
      refine wpAnyH_done (by kernel_rfl) ?_ _
      obtain ⟨hHS, hbx⟩ : Hid (TwT w B (.mk k1 i1 n1 l1 ks1) (.mk k1 i1 n1 l2 ks2) (.int .i64 k1) (.int .i64 i1) (.string n1) (.slice AL1 l1.length cl1) (.slice (some ⟨kb, ko, none⟩) ks1.length ck1) (.int .i64 k1) (.int .i64 i1) (.string n1) (.slice AL2 l2.length cl2) (.slice (some ⟨lb, lo, none⟩) ks2.length ck2) w8) ∧ True := ⟨Lib.hid (HNX.out _ HB.out).1, trivial⟩
      clear hS
      cases ev with
      | true =>
        have HZ : Hid (sameL ks1 ks2 = sameL (ks1.drop (j + 1)) (ks2.drop (j + 1))) := Lib.hid (by rw [HJ.out, HD.out, Bool.true_and])
        go_wp2_with fail
        go_roundw
        case rel => exact ⟨j + 1, hjl, by go_num, HZ, hHS.out⟩
        case measure => simp [intOf]; omega
      | false =>
        have HZ : Hid (sameT (.mk k1 i1 n1 l1 ks1) (.mk k1 i1 n1 l2 ks2) = false) := Lib.hid (by rw [HC.out, HJ.out, HD.out, Bool.false_and])
        go_wp2_with fail
        go_ret
        exact ⟨ret_bool HZ.out.symm, hHS.out.below⟩
    · have HZ : Hid (sameT (.mk k1 i1 n1 l1 ks1) (.mk k1 i1 n1 l2 ks2) = true) := Lib.hid (by rw [HC.out, HJ.out, List.drop_of_length_le (by omega), sameL])
      have hji : decide ((j : Int) < (ks1.length : Int)) = false := by rw [decide_eq_false_iff_not]; omega
      go_wp2_with fail
      go_ret
      exact ⟨ret_bool HZ.out.symm, hbl⟩
end Go.Proofs.YtobaeeobfcffoaaDoor
