/- The law SubstMoves. -/
import Derived.Test.YtobaeeobfcffoaaDoorMvp
namespace Go.Proofs.YtobaeeobfcffoaaDoor
open Go.RowKit

/-- Two cells of a box. -/
structure B2 (b : Nat) (c0 c1 : Value) (w : World) : Prop where
  x0 : w.cell? ⟨b, 0, none⟩ = some c0
  x1 : w.cell? ⟨b, 1, none⟩ = some c1
theorem B2.next {b : Nat} {c0 c1 : Value} {w w' : World} (h : B2 b c0 c1 w) (hb : Below w.heap.size w w') : B2 b c0 c1 w' :=
  ⟨(hb.cell (p := ⟨b, 0, none⟩) (World.block_lt_of_cell? w ⟨b, 0, none⟩ h.x0)).trans h.x0, (hb.cell (p := ⟨b, 1, none⟩) (World.block_lt_of_cell? w ⟨b, 1, none⟩ h.x1)).trans h.x1⟩
theorem info_int : (Tryd.prog.info? 3).map (fun i => (i.zero, i.size, i.bytes)) = some (some (.int .i64 0), 1, 8) := by kernel_rfl
/-- The slice value v is memory of the call's own, from block base on, and holds ms. -/
def OwnI (w : World) (base : Nat) (v : Value) (ms : List Int) : Prop := w.ownsRow base 3 1 v ms.length (ms.map encZ)
theorem one_new (W : World) (a : Value) (t : TypeId) : ∀ j u, [a][j]? = some u → (W.alloc (.cells #[a] t)).cell? ((⟨W.heap.size, 0, none⟩ : Addr).add j) = some u := by
  intro j u hj
  rw [Addr.add_lit]
  rcases j with _ | j
  · simp at hj; subst hj; go_simp
  · simp at hj
theorem OwnI.snoc {w : World} {base : Nat} {v : Value} {ms : List Int} {x : Int} (h : w.ownsRow base 3 1 v (ms.length + 1) (ms.map encZ ++ [.int .i64 x])) : OwnI w base v (ms ++ [x]) := by
  unfold OwnI
  rw [List.length_append, List.map_append]
  exact h
theorem OwnI.ia {w : World} {base : Nat} {v : Value} {ms : List Int} (h : w.ownsRow base 3 1 v ms.length (ms.map encZ)) (hl : ms.length ≤ 1000000000) : ∃ A cap, v = .slice A ms.length cap ∧ IA w w.heap.size A ms := by
  rcases h.2 with ⟨rfl, h0⟩ | ⟨g, cap, cur, rfl, hg, hh, hr⟩
  · exact ⟨none, 0, by rw [h0], by omega, fun hn => by omega⟩
  · refine ⟨_, cap, rfl, by omega, fun _ => ⟨g, 0, rfl, (Array.getElem?_eq_some_iff.1 hh).1, fun j p hj => ?_⟩⟩
    have := World.ownsRow.cells h (g := g) rfl j (encZ p) (by rw [List.getElem?_map, hj]; rfl)
    rw [Addr.add_lit] at this
    exact this
theorem mvs_len (n fr : Nat) : (mvs n fr).length = 300 := by unfold mvs; rw [List.length_map, List.length_range]
theorem mvs_take (n fr : Nat) {j : Nat} (hj : j < 300) : (mvs n fr).take (j + 1) = (mvs n fr).take j ++ [if fr ≤ j then (j : Int) + n else (j : Int)] := by
  have hl : j < (mvs n fr).length := by rw [mvs_len]; exact hj
  rw [List.take_succ_eq_append_getElem hl]
  congr 2
  have := mvs_at n fr hj
  rw [List.getElem?_eq_getElem hl] at this
  exact Option.some.inj this
structure Ih (B : Nat) (AT : Option Addr) (tos : List Int) (w : World) : Prop where
  ia : IA w B AT tos
  le : B ≤ w.heap.size
theorem Ih.next {B : Nat} {AT : Option Addr} {tos : List Int} {w w' : World} (h : Ih B AT tos w) (hb : Below w.heap.size w w') : Ih B AT tos w' := ⟨h.ia.next (hb.mono h.le), Nat.le_trans h.le hb.size⟩
theorem Ih.all {B : Nat} {AT : Option Addr} {tos : List Int} {w : World} (h : Ih B AT tos w) : IA w w.heap.size AT tos := h.ia.more h.le
theorem free_len {t : Tm} (h : GoodT t) : (freeT t).length ≤ 1000000 := by
  have h1 := freeS_length (preT t 0 1)
  rw [preT_length] at h1
  have := h.sz
  unfold freeT
  omega
theorem free_asc (t : Tm) : AscI (freeT t) := freeS_asc _
theorem mem_le {S : List Int} (h : AscI S) {L : Nat} (hL : L < S.length) (hl : S.length = L + 1) {x : Int} (hx : x ∈ S) : x ≤ S[L] := by
  have h1 := asc_last h hx (by omega)
  have e : S.length - 1 = L := by omega
  simpa only [e] using h1
set_option maxRecDepth 100000 in
set_option maxHeartbeats 32000000 in
theorem substMoves_any (t : Tm) (n m fr : Nat) (vt : Value) (w : World) (hvt : TmV w w.heap.size t vt) (hwt : WfT t) (hn : n ≤ 255) (hm : m ≤ 255) (hfr : fr ≤ 255) (hsh : Shapes w) (hw : 0 < w.heap.size) : Calls Tryd.prog 7 #[vt, .agg #[.int .u8 n, .int .u8 m], .int .u8 fr] w fun e w' => e = .returned (.bool true) ∧ Below w.heap.size w w' := by
  obtain ⟨ka, ia, na, ALa, nla, cla, AKa, nka, cka, rfl, _⟩ := TmP.open_ (TmP.of t vt hvt)
  have hA := (TB.new hvt).next (alB _ (.cells #[.int .u8 n, .int .u8 m] 48))
  have hY : B2 (w.heap.size + 1) (.int .u8 n) (.int .u8 m) ((w.alloc (.cells #[.int .i64 ka, .int .i64 ia, .string na, .slice ALa nla cla, .slice AKa nka cka] 25)).alloc (.cells #[.int .u8 n, .int .u8 m] 48)) := by
    have hn := World.alloc_heap_new (w.alloc (.cells #[.int .i64 ka, .int .i64 ia, .string na, .slice ALa nla cla, .slice AKa nka cka] 25)) (.cells #[.int .u8 n, .int .u8 m] 48)
    rw [World.size_alloc] at hn
    exact ⟨cell_of_row _ _ 0 _ _ _ hn, cell_of_row _ _ 1 _ _ _ hn⟩
  have hL := (((Lw.start hsh hw).next (alB w (.cells #[.int .i64 ka, .int .i64 ia, .string na, .slice ALa nla cla, .slice AKa nka cka] 25))).next (alB _ (.cells #[.int .u8 n, .int .u8 m] 48)))
  obtain ⟨w0, hw0⟩ : ∃ z, z = (w.alloc (.cells #[.int .i64 ka, .int .i64 ia, .string na, .slice ALa nla cla, .slice AKa nka cka] 25)).alloc (.cells #[.int .u8 n, .int .u8 m] 48) := ⟨_, rfl⟩
  rw [← hw0] at hA hY hL
  have HW0 := Lib.hid hw0
  have A := Lib.hid hA
  have Y := Lib.hid hY
  have LW := Lib.hid hL
  have HWF := Lib.hid hwt
  clear hw0 hA hY hL hvt hwt hsh hw
  go_enter Tryd.func7, Tryd.ntmps7
  go_upto_region 1 with fail
  rw [← HW0.out]
  clear HW0
  obtain ⟨a0, a1, a2, a3, a4, _, _, _, _, _⟩ := A.out.b5
  go_wp2_with fail
  refine (good_any [t] (some ⟨w0.heap.size, 0, none⟩) 1 (w0.heap.size + 1) _ (by simp) (list_ka (A.out.rd rfl) (by simp)) (by simp) (by simpa using HWF.out)).mono ?_
  rintro e w2 ⟨b, rfl, hb, hg⟩
  have A := Lib.hid ((A.out.next (alB _ _)).next hb)
  have Y := Lib.hid ((Y.out.next (alB _ _)).next hb)
  have LW := Lib.hid ((LW.out.next (alB _ _)).next hb)
  clear hb
  clear a0 a1 a2 a3 a4
  cases b with
  | false =>
    clear hg
    go_wp2_with fail
    refine (awake_any _ LW.out.sh LW.out.pos).mono ?_
    rintro e v1 ⟨rfl, hb⟩
    have LW := Lib.hid (LW.out.next hb)
    clear hb
    go_wp2_with fail
    go_ret
    exact ⟨rfl, LW.out.below⟩
  | true =>
    have HGT := Lib.hid (hg rfl t (by simp))
    clear hg HWF
    obtain ⟨u0, u1⟩ := Y.out
    have wn : IntKind.i64.wrap (n : Int) = (n : Int) := wrap_in _ (by omega)
    have wm : IntKind.i64.wrap (m : Int) = (m : Int) := wrap_in _ (by omega)
    have wf : IntKind.i64.wrap (fr : Int) = (fr : Int) := wrap_in _ (by omega)
    have wnm : IntKind.i64.wrap ((n : Int) + (m : Int)) = (n : Int) + (m : Int) := wrap_in _ (by omega)
    have wng : IntKind.i64.wrap (-(n : Int)) = -(n : Int) := wrap_in _ (by omega)
    have HGT := HGT
    go_upto_region 3 with fail
    go_quiet (fail)
    have A := Lib.hid (A.out.next (Below.drewN' (Below.refl _ w2) nq))
    have Y := Lib.hid (Y.out.next (Below.drewN' (Below.refl _ w2) nq))
    have LW := Lib.hid (LW.out.next (Below.drewN' (Below.refl _ w2) nq))
    generalize w2.drewN nq = w3 at *
    clear u0 u1
    clear Y
    obtain ⟨a0, a1, a2, a3, a4, _, _, _, _, _⟩ := A.out.b5
    go_wp2_with fail
    have HS1 := Lib.hid (shO_small (by_ := n) (fr := fr) HGT.out.qv)
    refine (sshift_any t _ n fr _ w3 A.out.tv (Nat.le_refl _) (by have := HGT.out.sz; omega) HGT.out.qv (by omega)).mono ?_
    intro e v2 h
    obtain ⟨hb, k2, i2, n2, AL2, nl2, cl2, AK2, nk2, ck2, rfl, ht⟩ := h.tmv
    have A := Lib.hid (A.out.next hb)
    have LW := Lib.hid (LW.out.next hb)
    have C := Lib.hid (TB.new ht)
    have A := Lib.hid (A.out.next (alB v2 (.cells #[.int .i64 k2, .int .i64 i2, .string n2, .slice AL2 nl2 cl2, .slice AK2 nk2 ck2] 25)))
    have LW := Lib.hid (LW.out.next (alB v2 (.cells #[.int .i64 k2, .int .i64 i2, .string n2, .slice AL2 nl2 cl2, .slice AK2 nk2 ck2] 25)))
    obtain ⟨w2, hw2⟩ : ∃ x, x = v2.alloc (.cells #[.int .i64 k2, .int .i64 i2, .string n2, .slice AL2 nl2 cl2, .slice AK2 nk2 ck2] 25) := ⟨_, rfl⟩
    rw [← hw2] at A C LW
    have HW2 := Lib.hid hw2
    clear h hb ht hw2
    clear a0 a1 a2 a3 a4
    go_upto_region 5 with fail
    rw [← HW2.out]
    clear HW2
    obtain ⟨c0, c1, c2, c3, c4, _, _, _, _, _⟩ := C.out.b5
    go_wp2_with fail
    refine (sshift_any (shO n fr t) _ m fr _ w2 C.out.tv (Nat.le_refl _) (by have := HS1.out.1; omega) HS1.out.2 (by omega)).mono ?_
    intro e v3 h
    obtain ⟨hb, k3, i3, n3, AL3, nl3, cl3, AK3, nk3, ck3, rfl, ht⟩ := h.tmv
    have A := Lib.hid (A.out.next hb)
    have C := Lib.hid (C.out.next hb)
    have LW := Lib.hid (LW.out.next hb)
    have D := Lib.hid (TB.new ht)
    have A := Lib.hid (A.out.next (alB v3 (.cells #[.int .i64 k3, .int .i64 i3, .string n3, .slice AL3 nl3 cl3, .slice AK3 nk3 ck3] 25)))
    have C := Lib.hid (C.out.next (alB v3 (.cells #[.int .i64 k3, .int .i64 i3, .string n3, .slice AL3 nl3 cl3, .slice AK3 nk3 ck3] 25)))
    have LW := Lib.hid (LW.out.next (alB v3 (.cells #[.int .i64 k3, .int .i64 i3, .string n3, .slice AL3 nl3 cl3, .slice AK3 nk3 ck3] 25)))
    obtain ⟨w3, hw3⟩ : ∃ x, x = v3.alloc (.cells #[.int .i64 k3, .int .i64 i3, .string n3, .slice AL3 nl3 cl3, .slice AK3 nk3 ck3] 25) := ⟨_, rfl⟩
    rw [← hw3] at A C D LW
    have HW3 := Lib.hid hw3
    clear h hb ht hw3
    clear c0 c1 c2 c3 c4
    go_upto_region 6 with fail
    rw [← HW3.out]
    clear HW3
    obtain ⟨a0, a1, a2, a3, a4, _, _, _, _, _⟩ := A.out.b5
    go_wp2_with fail
    refine (sshift_any t _ ((n : Int) + m) fr _ w3 A.out.tv (Nat.le_refl _) (by have := HGT.out.sz; omega) HGT.out.qv (by omega)).mono ?_
    intro e v4 h
    obtain ⟨hb, k4, i4, n4, AL4, nl4, cl4, AK4, nk4, ck4, rfl, ht⟩ := h.tmv
    have A := Lib.hid (A.out.next hb)
    have C := Lib.hid (C.out.next hb)
    have D := Lib.hid (D.out.next hb)
    have LW := Lib.hid (LW.out.next hb)
    have E := Lib.hid (TB.new ht)
    have A := Lib.hid (A.out.next (alB v4 (.cells #[.int .i64 k4, .int .i64 i4, .string n4, .slice AL4 nl4 cl4, .slice AK4 nk4 ck4] 25)))
    have C := Lib.hid (C.out.next (alB v4 (.cells #[.int .i64 k4, .int .i64 i4, .string n4, .slice AL4 nl4 cl4, .slice AK4 nk4 ck4] 25)))
    have D := Lib.hid (D.out.next (alB v4 (.cells #[.int .i64 k4, .int .i64 i4, .string n4, .slice AL4 nl4 cl4, .slice AK4 nk4 ck4] 25)))
    have LW := Lib.hid (LW.out.next (alB v4 (.cells #[.int .i64 k4, .int .i64 i4, .string n4, .slice AL4 nl4 cl4, .slice AK4 nk4 ck4] 25)))
    obtain ⟨w4, hw4⟩ : ∃ x, x = v4.alloc (.cells #[.int .i64 k4, .int .i64 i4, .string n4, .slice AL4 nl4 cl4, .slice AK4 nk4 ck4] 25) := ⟨_, rfl⟩
    rw [← hw4] at A C D E LW
    have HW4 := Lib.hid hw4
    clear h hb ht hw4
    clear a0 a1 a2 a3 a4
    go_upto_region 7 with fail
    rw [← HW4.out]
    clear HW4
    obtain ⟨c0, c1, c2, c3, c4, _, _, _, _, _⟩ := C.out.b5
    go_wp2_with fail
    refine (sshift_any (shO n fr t) _ (-(n : Int)) fr _ w4 C.out.tv (Nat.le_refl _) (by have := HS1.out.1; omega) HS1.out.2 (by omega)).mono ?_
    intro e v5 h
    obtain ⟨hb, k5, i5, n5, AL5, nl5, cl5, AK5, nk5, ck5, rfl, ht⟩ := h.tmv
    have A := Lib.hid (A.out.next hb)
    have C := Lib.hid (C.out.next hb)
    have D := Lib.hid (D.out.next hb)
    have E := Lib.hid (E.out.next hb)
    have LW := Lib.hid (LW.out.next hb)
    have G := Lib.hid (TB.new ht)
    have A := Lib.hid (A.out.next (alB v5 (.cells #[.int .i64 k5, .int .i64 i5, .string n5, .slice AL5 nl5 cl5, .slice AK5 nk5 ck5] 25)))
    have C := Lib.hid (C.out.next (alB v5 (.cells #[.int .i64 k5, .int .i64 i5, .string n5, .slice AL5 nl5 cl5, .slice AK5 nk5 ck5] 25)))
    have D := Lib.hid (D.out.next (alB v5 (.cells #[.int .i64 k5, .int .i64 i5, .string n5, .slice AL5 nl5 cl5, .slice AK5 nk5 ck5] 25)))
    have E := Lib.hid (E.out.next (alB v5 (.cells #[.int .i64 k5, .int .i64 i5, .string n5, .slice AL5 nl5 cl5, .slice AK5 nk5 ck5] 25)))
    have LW := Lib.hid (LW.out.next (alB v5 (.cells #[.int .i64 k5, .int .i64 i5, .string n5, .slice AL5 nl5 cl5, .slice AK5 nk5 ck5] 25)))
    obtain ⟨w5, hw5⟩ : ∃ x, x = v5.alloc (.cells #[.int .i64 k5, .int .i64 i5, .string n5, .slice AL5 nl5 cl5, .slice AK5 nk5 ck5] 25) := ⟨_, rfl⟩
    rw [← hw5] at A C D E G LW
    have HW5 := Lib.hid hw5
    clear h hb ht hw5
    clear c0 c1 c2 c3 c4
    go_upto_region 8 with fail
    rw [← HW5.out]
    clear HW5
    have HP := Lib.hid (mv_all (fr := fr) HGT.out hn hm)
    clear HS1 wm wnm wng
    generalize hO2 : shO m fr (shO n fr t) = O2 at *
    generalize hO4 : shO (-(n : Int)) fr (shO n fr t) = O4 at *
    generalize hE2 : shE m fr (shO n fr t) = E2 at *
    generalize hE4 : shE (-(n : Int)) fr (shO n fr t) = E4 at *
    generalize hO3 : shO ((n : Int) + m) fr t = O3 at *
    generalize hE3 : shE ((n : Int) + m) fr t = E3 at *
    generalize hO1 : shO n fr t = O1 at *
    generalize hE1 : shE n fr t = E1 at *
    clear hO1 hO2 hO3 hO4 hE1 hE2 hE3 hE4
    by_cases h1 : E1 = 0
    case' neg =>
      obtain rfl : E1 = 24 := HP.out.1.resolve_left h1
      obtain rfl : E3 = 24 := HP.out.2.2.1 h1
    case' pos =>
      subst h1
      have hP := HP.out.2.2.2 rfl
      obtain rfl : E2 = E3 := hP.1
      by_cases h2 : E2 = 0
      case' neg =>
        obtain rfl : E2 = 24 := HP.out.2.1.resolve_left h2
      case' pos =>
        subst h2
        obtain rfl : O2 = O3 := hP.2.1 rfl
        obtain rfl : E4 = 0 := hP.2.2.1
        obtain rfl : O4 = t := hP.2.2.2.1
        have HLO := Lib.hid hP.2.2.2.2
        clear hP HP
    -- the branch without an error
    ·
      obtain ⟨d0, d1, d2, d3, d4, _, _, _, _, _⟩ := D.out.b5
      obtain ⟨e0, e1, e2, e3, e4, _, _, _, _, _⟩ := E.out.b5
      go_wp2_with fail
      refine (rsameT_any (szT O2) O2 O2 _ _ _ w5 (Nat.le_refl _) D.out.tv E.out.tv (Nat.le_refl _)).mono ?_
      rw [sameT_self]
      rintro e wa ⟨rfl, hb⟩
      have A := Lib.hid (A.out.next hb)
      have C := Lib.hid (C.out.next hb)
      have D := Lib.hid (D.out.next hb)
      have E := Lib.hid (E.out.next hb)
      have G := Lib.hid (G.out.next hb)
      have LW := Lib.hid (LW.out.next hb)
      clear hb
      clear d0 d1 d2 d3 d4 e0 e1 e2 e3 e4
      obtain ⟨a0, a1, a2, a3, a4, _, _, _, _, _⟩ := A.out.b5
      obtain ⟨g0, g1, g2, g3, g4, _, _, _, _, _⟩ := G.out.b5
      go_wp2_with fail
      refine (rsameT_any (szT O4) O4 O4 _ _ _ wa (Nat.le_refl _) G.out.tv A.out.tv (Nat.le_refl _)).mono ?_
      rw [sameT_self]
      rintro e wb ⟨rfl, hb⟩
      have A := Lib.hid (A.out.next hb)
      have C := Lib.hid (C.out.next hb)
      have D := Lib.hid (D.out.next hb)
      have E := Lib.hid (E.out.next hb)
      have G := Lib.hid (G.out.next hb)
      have LW := Lib.hid (LW.out.next hb)
      clear hb D E G
      clear a0 a1 a2 a3 a4 g0 g1 g2 g3 g4
      obtain ⟨i0, hi, hz0, hz1, hz2⟩ := info_parts info_int
      go_wp2_with fail
      go_loopw [17, 108] (fun s17 s108 wx => ∃ (j : Nat) (v : Value), j ≤ 300 ∧ s17 = v ∧ s108 = .int .i64 (j : Int) ∧ Hid (OwnI wx wb.heap.size v ((mvs n fr).take j)) ∧ Hid (Below wb.heap.size wb wx)) (fun _ s108 _ => 300 - (intOf s108).toNat)
      case atStart => exact ⟨0, .slice none 0 0, Nat.zero_le _, rfl, rfl, Lib.hid (World.ownsRow_nil _ _ _ _), Lib.hid (Below.refl _ _)⟩
      case round =>
        obtain ⟨j, v, hj, rfl, rfl, HO, HB⟩ := hrel
        have hsz := HB.out.size
        have hlen : ((mvs n fr).take j).length = j := by rw [List.length_take, mvs_len]; omega
        have HLN := Lib.hid hlen
        clear hlen
        by_cases hjl : j < 300
        · have dj : decide ((j : Int) < 300) = true := decide_eq_true (by omega)
          have HT := Lib.hid (mvs_take n fr hjl)
          have w1 : IntKind.i64.wrap ((j : Int) + 1) = (j : Int) + 1 := wrap_in _ (by omega)
          by_cases hfj : fr ≤ j
          · have df : decide (fr ≤ j) = true := decide_eq_true hfj
            have wj : IntKind.i64.wrap ((j : Int) + (n : Int)) = (j : Int) + (n : Int) := wrap_in _ (by omega)
            rw [if_pos hfj] at HT
            generalize (mvs n fr).take j = S at HO HLN HT
            go_upto_region 18 with fail
            go_wp2_with (at_builtin; refine wpList_append_own _ rfl _ _ 40 rfl wb.heap.size 3 i0 (.int .i64 0) 1 8 Tryd.underlying40 hi hz0 hz1 hz2 rfl (by decide) _ _ _ rfl (World.ownsRow.alloc HO.out _) ⟨wr.heap.size, 0, none⟩ 1 1 [.int .i64 ((j : Int) + (n : Int))] rfl ?qc1 ?qc2 ?qc3 ?qc4 ?qc5 ?qc6 ?_)
            case qc1 => rfl
            case qc2 => exact one_new _ _ _
            case qc3 => intro u hu; simp at hu; subst hu; rfl
            case qc4 => have := HLN.out; (try simp only [List.length_append, List.length_singleton]); unfold maxLen; omega
            case qc5 => have := HLN.out; (try simp only [List.length_append, List.length_singleton]); omega
            case qc6 => simp; omega
            intro v5 w5 hown hgrow _
            have hb5 : Below wb.heap.size wr w5 := ((Below.refl _ _).alloc (by omega) _).grown hgrow (by simp; omega) (fun q hq => by have := World.ownsRow.lt HO.out q hq; omega)
            have HO5 := Lib.hid (OwnI.snoc hown)
            have HB5 := Lib.hid (HB.out.trans hb5)
            clear hown hgrow hb5
            go_wp2
            go_roundw
            case rel => exact ⟨j + 1, v5, by omega, rfl, rfl, Lib.hid (by rw [HT.out]; exact HO5.out), HB5⟩
            case measure => simp [intOf]; omega
          · have df : decide (fr ≤ j) = false := decide_eq_false hfj
            rw [if_neg hfj] at HT
            generalize (mvs n fr).take j = S at HO HLN HT
            go_upto_region 18 with fail

            go_wp2_with (at_builtin; refine wpList_append_own _ rfl _ _ 40 rfl wb.heap.size 3 i0 (.int .i64 0) 1 8 Tryd.underlying40 hi hz0 hz1 hz2 rfl (by decide) _ _ _ rfl (World.ownsRow.alloc HO.out _) ⟨wr.heap.size, 0, none⟩ 1 1 [.int .i64 (j : Int)] rfl ?qc1 ?qc2 ?qc3 ?qc4 ?qc5 ?qc6 ?_)
            case qc1 => rfl
            case qc2 => exact one_new _ _ _
            case qc3 => intro u hu; simp at hu; subst hu; rfl
            case qc4 => have := HLN.out; (try simp only [List.length_append, List.length_singleton]); unfold maxLen; omega
            case qc5 => have := HLN.out; (try simp only [List.length_append, List.length_singleton]); omega
            case qc6 => simp; omega
            intro v5 w5 hown hgrow _
            have hb5 : Below wb.heap.size wr w5 := ((Below.refl _ _).alloc (by omega) _).grown hgrow (by simp; omega) (fun q hq => by have := World.ownsRow.lt HO.out q hq; omega)
            have HO5 := Lib.hid (OwnI.snoc hown)
            have HB5 := Lib.hid (HB.out.trans hb5)
            clear hown hgrow hb5
            go_wp2
            go_roundw
            case rel => exact ⟨j + 1, v5, by omega, rfl, rfl, Lib.hid (by rw [HT.out]; exact HO5.out), HB5⟩
            case measure => simp [intOf]; omega
        · have dj : decide ((j : Int) < 300) = false := decide_eq_false (by omega)
          have h300 : (mvs n fr).take j = mvs n fr := List.take_of_length_le (by rw [mvs_len]; omega)
          rw [h300] at HO
          clear h300 HLN hjl hj
          obtain ⟨A1, cap1, rfl, hia⟩ := OwnI.ia HO.out (by rw [mvs_len]; omega)
          have V : Hid (Ih wr.heap.size A1 (mvs n fr) wr) := Lib.hid ⟨hia, Nat.le_refl _⟩
          have A := Lib.hid (A.out.next HB.out)
          have C := Lib.hid (C.out.next HB.out)
          have LW := Lib.hid (LW.out.next HB.out)
          clear hia HO HB
          obtain ⟨a0, a1, a2, a3, a4, _, _, _, _, _⟩ := A.out.b5
          go_wp2_with fail
          refine (tfree_any O4 _ wr.heap.size wr A.out.tv (Nat.le_refl _) LW.out.pos LW.out.sh (by have := HGT.out.sz; omega)).mono ?_
          rintro e w9 ⟨v9, rfl, hown, hb⟩
          have A := Lib.hid (A.out.next hb)
          have C := Lib.hid (C.out.next hb)
          have V := Lib.hid (V.out.next hb)
          have LW := Lib.hid (LW.out.next hb)
          clear a0 a1 a2 a3 a4
          have HFL := Lib.hid (free_len HGT.out)
          have HAS := Lib.hid (free_asc O4)
          have HLM := Lib.hid (lo_of HGT.out)
          obtain ⟨A2, cap2, rfl, hif⟩ := OwnI.ia hown (by have := HFL.out; omega)
          clear hown hb
          generalize freeT O4 = F at *
          by_cases hF : F.length = 0
          · have HLo := Lib.hid (HLM.out (fun x hx => absurd (List.length_pos_of_mem hx) (by omega)))
            clear HFL HLM HAS hif
            generalize F.length = lf at *
            have h0 : ¬ 0 < lf := by omega
            have d0 : decide (0 < lf) = false := decide_eq_false h0
            obtain ⟨a0, a1, a2, a3, a4, _, _, _, _, _⟩ := A.out.b5
            go_wp2_with fail
            refine (rename_any O4 _ (mvs n fr) A1 cap1 _ w9 A.out.tv V.out.all (Nat.le_refl _) (by have := HGT.out.sz; omega) HGT.out.qv).mono ?_
            rw [(HLO.out HLo.out).1, (HLO.out HLo.out).2]
            intro e v6 h
            obtain ⟨hb, k6, i6, n6, AL6, nl6, cl6, AK6, nk6, ck6, rfl, ht⟩ := h.tmv
            have A := Lib.hid (A.out.next hb)
            have C := Lib.hid (C.out.next hb)
            have V := Lib.hid (V.out.next hb)
            have LW := Lib.hid (LW.out.next hb)
            have D := Lib.hid (TB.new ht)
            have A := Lib.hid (A.out.next (alB v6 (.cells #[.int .i64 k6, .int .i64 i6, .string n6, .slice AL6 nl6 cl6, .slice AK6 nk6 ck6] 25)))
            have C := Lib.hid (C.out.next (alB v6 (.cells #[.int .i64 k6, .int .i64 i6, .string n6, .slice AL6 nl6 cl6, .slice AK6 nk6 ck6] 25)))
            have V := Lib.hid (V.out.next (alB v6 (.cells #[.int .i64 k6, .int .i64 i6, .string n6, .slice AL6 nl6 cl6, .slice AK6 nk6 ck6] 25)))
            have LW := Lib.hid (LW.out.next (alB v6 (.cells #[.int .i64 k6, .int .i64 i6, .string n6, .slice AL6 nl6 cl6, .slice AK6 nk6 ck6] 25)))
            obtain ⟨w6, hw6⟩ : ∃ x, x = v6.alloc (.cells #[.int .i64 k6, .int .i64 i6, .string n6, .slice AL6 nl6 cl6, .slice AK6 nk6 ck6] 25) := ⟨_, rfl⟩
            rw [← hw6] at A C V D LW
            have HW6 := Lib.hid hw6
            clear h hb ht hw6
            clear a0 a1 a2 a3 a4
            go_upto_region 24 with fail
            rw [← HW6.out]
            clear HW6
            obtain ⟨c0, c1, c2, c3, c4, _, _, _, _, _⟩ := C.out.b5
            obtain ⟨d0, d1, d2, d3, d4, _, _, _, _, _⟩ := D.out.b5
            go_wp2_with fail
            refine (rsameT_any (szT O1) O1 O1 _ _ _ w6 (Nat.le_refl _) D.out.tv C.out.tv (Nat.le_refl _)).mono ?_
            rw [sameT_self]
            rintro e wz ⟨rfl, hb⟩
            have A := Lib.hid (A.out.next hb)
            have C := Lib.hid (C.out.next hb)
            have V := Lib.hid (V.out.next hb)
            have D := Lib.hid (D.out.next hb)
            have LW := Lib.hid (LW.out.next hb)
            clear hb
            clear c0 c1 c2 c3 c4 d0 d1 d2 d3 d4
            go_wp2_with fail
            refine (awake_any _ LW.out.sh LW.out.pos).mono ?_
            rintro e v7 ⟨rfl, hb⟩
            have LW := Lib.hid (LW.out.next hb)
            clear hb
            go_wp2_with fail
            go_ret
            exact ⟨rfl, LW.out.below⟩
          · obtain ⟨L, hFL⟩ : ∃ L, F.length = L + 1 := ⟨F.length - 1, by omega⟩
            have hlt : L < F.length := by omega
            have hfl := HFL.out
            obtain ⟨b2, o2, rfl, hb2, hc2⟩ := hif.2 (by omega)
            have hcL := hc2 L F[L] (List.getElem?_eq_getElem hlt)
            have HMX := Lib.hid (fun x (hx : x ∈ F) => mem_le HAS.out hlt hFL hx)
            clear hc2 hif HAS HFL hF
            generalize F[L] = y at *
            generalize F.length = lf at *
            have h0 : 0 < lf := by omega
            have d0 : decide (0 < lf) = true := decide_eq_true h0
            have wL : IntKind.i64.wrap ((lf : Int) - 1) = (L : Int) := by rw [wrap_in _ (by omega)]; omega
            have wL6 : wrap64 ((lf : Int) - 1) = (L : Int) := by unfold wrap64; omega
            by_cases h3 : 300 ≤ y
            · have d3 : decide ((300 : Int) ≤ y) = true := decide_eq_true h3
              go_wp2_with fail
              refine (awake_any _ LW.out.sh LW.out.pos).mono ?_
              rintro e v11 ⟨rfl, hb⟩
              have LW := Lib.hid (LW.out.next hb)
              clear hb
              go_wp2_with fail
              go_ret
              exact ⟨rfl, LW.out.below⟩
            · have d3 : decide ((300 : Int) ≤ y) = false := decide_eq_false h3
              have HLo := Lib.hid (HLM.out (fun x hx => by have := HMX.out x hx; omega))
              clear HMX HLM h3
              obtain ⟨a0, a1, a2, a3, a4, _, _, _, _, _⟩ := A.out.b5
              go_wp2_with fail
              refine (rename_any O4 _ (mvs n fr) A1 cap1 _ w9 A.out.tv V.out.all (Nat.le_refl _) (by have := HGT.out.sz; omega) HGT.out.qv).mono ?_
              rw [(HLO.out HLo.out).1, (HLO.out HLo.out).2]
              intro e v12 h
              obtain ⟨hb, k12, i12, n12, AL12, nl12, cl12, AK12, nk12, ck12, rfl, ht⟩ := h.tmv
              have A := Lib.hid (A.out.next hb)
              have C := Lib.hid (C.out.next hb)
              have V := Lib.hid (V.out.next hb)
              have LW := Lib.hid (LW.out.next hb)
              have D := Lib.hid (TB.new ht)
              have A := Lib.hid (A.out.next (alB v12 (.cells #[.int .i64 k12, .int .i64 i12, .string n12, .slice AL12 nl12 cl12, .slice AK12 nk12 ck12] 25)))
              have C := Lib.hid (C.out.next (alB v12 (.cells #[.int .i64 k12, .int .i64 i12, .string n12, .slice AL12 nl12 cl12, .slice AK12 nk12 ck12] 25)))
              have V := Lib.hid (V.out.next (alB v12 (.cells #[.int .i64 k12, .int .i64 i12, .string n12, .slice AL12 nl12 cl12, .slice AK12 nk12 ck12] 25)))
              have LW := Lib.hid (LW.out.next (alB v12 (.cells #[.int .i64 k12, .int .i64 i12, .string n12, .slice AL12 nl12 cl12, .slice AK12 nk12 ck12] 25)))
              obtain ⟨w12, hw12⟩ : ∃ x, x = v12.alloc (.cells #[.int .i64 k12, .int .i64 i12, .string n12, .slice AL12 nl12 cl12, .slice AK12 nk12 ck12] 25) := ⟨_, rfl⟩
              rw [← hw12] at A C V D LW
              have HW12 := Lib.hid hw12
              clear h hb ht hw12
              clear a0 a1 a2 a3 a4
              go_upto_region 24 with fail
              rw [← HW12.out]
              clear HW12
              obtain ⟨c0, c1, c2, c3, c4, _, _, _, _, _⟩ := C.out.b5
              obtain ⟨d0, d1, d2, d3, d4, _, _, _, _, _⟩ := D.out.b5
              go_wp2_with fail
              refine (rsameT_any (szT O1) O1 O1 _ _ _ w12 (Nat.le_refl _) D.out.tv C.out.tv (Nat.le_refl _)).mono ?_
              rw [sameT_self]
              rintro e wz ⟨rfl, hb⟩
              have A := Lib.hid (A.out.next hb)
              have C := Lib.hid (C.out.next hb)
              have V := Lib.hid (V.out.next hb)
              have D := Lib.hid (D.out.next hb)
              have LW := Lib.hid (LW.out.next hb)
              clear hb
              clear c0 c1 c2 c3 c4 d0 d1 d2 d3 d4
              go_wp2_with fail
              refine (awake_any _ LW.out.sh LW.out.pos).mono ?_
              rintro e v13 ⟨rfl, hb⟩
              have LW := Lib.hid (LW.out.next hb)
              clear hb
              go_wp2_with fail
              go_ret
              exact ⟨rfl, LW.out.below⟩
    all_goals
      go_wp2_with fail
      refine (awake_any _ LW.out.sh LW.out.pos).mono ?_
      rintro e v27 ⟨rfl, hb⟩
      have LW := Lib.hid (LW.out.next hb)
      clear hb
      go_wp2_with fail
      go_ret
      exact ⟨rfl, LW.out.below⟩
end Go.Proofs.YtobaeeobfcffoaaDoor
