/- add of the reference: a number into an ascending list. -/
import Derived.Test.YtbiifkpelldciaaDoorOcr
import Derived.Test.YtbiifkpelldciaaDoorExs
namespace Go.Proofs.YtbiifkpelldciaaDoor
open Go.RowKit

theorem insO_some {x : Int} : ∀ {l : List Int} (m : List Int), l.any (fun y => decide (x < y)) = true → insO x (l ++ m) = insO x l ++ m
  | [], m, h => by cases h
  | y :: r, m, h => by
    rw [List.cons_append, insO, insO]
    by_cases hy : x < y
    · rw [if_pos hy, if_pos hy]; rfl
    · rw [if_neg hy, if_neg hy, insO_some m (by simpa [hy] using h)]; rfl
theorem insO_none {x : Int} : ∀ {l : List Int} (m : List Int), l.any (fun y => decide (x < y)) = false → insO x (l ++ m) = l ++ insO x m
  | [], m, _ => rfl
  | y :: r, m, h => by
    rw [List.any_cons, Bool.or_eq_false_iff] at h
    rw [List.cons_append, insO, if_neg (by simpa using h.1), insO_none m h.2]; rfl
/-- What has been gathered of the list's beginning. -/
def adO (x : Int) (l : List Int) : List Int := if l.any (fun y => decide (x < y)) = true then insO x l else l
theorem adO_len (x : Int) (l : List Int) : (adO x l).length ≤ l.length + 1 := by
  unfold adO
  split
  · rw [insO_length]; exact Nat.le_refl _
  · omega
theorem any_snoc {x y : Int} {l : List Int} : (l ++ [y]).any (fun y => decide (x < y)) = (l.any (fun y => decide (x < y)) || decide (x < y)) := by simp
theorem adO_old {x y : Int} {l : List Int} (h : l.any (fun y => decide (x < y)) = true) : adO x (l ++ [y]) = adO x l ++ [y] := by
  unfold adO
  rw [any_snoc, h, Bool.true_or, if_pos rfl, if_pos rfl, insO_some [y] h]
theorem adO_now {x y : Int} {l : List Int} (h : l.any (fun y => decide (x < y)) = false) (hy : x < y) : adO x (l ++ [y]) = adO x l ++ [x] ++ [y] := by
  unfold adO
  rw [any_snoc, h, Bool.false_or, decide_eq_true hy, if_pos rfl, if_neg (by simp), insO_none [y] h, insO, if_pos hy, List.append_assoc]
  rfl
theorem adO_not {x y : Int} {l : List Int} (h : l.any (fun y => decide (x < y)) = false) (hy : ¬ x < y) : adO x (l ++ [y]) = adO x l ++ [y] := by
  unfold adO
  rw [any_snoc, h, Bool.false_or, decide_eq_false hy, if_neg (by simp), if_neg (by simp)]
theorem insS_out {x : Int} {S : List Int} (h : x ∉ S) : insS x S = insO x S := by
  unfold insS
  rw [List.filter_eq_self.2 (fun y hy => by
    simp only [Bool.not_eq_true', beq_eq_false_iff_ne]
    rintro rfl
    exact h hy)]
theorem insS_in {x : Int} {S : List Int} (hS : AscI S) (h : x ∈ S) : insS x S = S := by
  refine List.Perm.eq_of_pairwise (fun a b _ _ h1 h2 => by omega) (asc_insS hS) hS ?_
  refine (List.perm_ext_iff_of_nodup ((asc_insS hS).imp fun h => by omega) (hS.imp fun h => by omega)).2 fun a => ?_
  rw [mem_insS]
  exact ⟨fun e => e.elim (fun e => e ▸ h) id, .inr⟩
theorem adO_end {x : Int} {S : List Int} (h : x ∉ S) (hd : S.any (fun y => decide (x < y)) = true) : adO x S = insS x S := by
  rw [insS_out h]; unfold adO; rw [if_pos hd]
theorem adO_end' {x : Int} {S : List Int} (h : x ∉ S) (hd : S.any (fun y => decide (x < y)) = false) : adO x S ++ [x] = insS x S := by
  rw [insS_out h]; unfold adO; rw [if_neg (by rw [hd]; simp)]
  have := insO_none (x := x) (l := S) [] hd
  rw [List.append_nil] at this
  rw [this]; rfl

theorem info_int : (Tryd.prog.info? 3).map (fun i => (i.zero, i.size, i.bytes)) = some (some (.int .i64 0), 1, 8) := by kernel_rfl
/-- The slice value v is memory of the call's own, from block base on, and holds ms. -/
def OwnI (w : World) (base : Nat) (v : Value) (ms : List Int) : Prop := w.ownsRow base 3 1 v ms.length (ms.map encZ)
/-- The call returns a slice that reads as ms. -/
def GivesIA (ms : List Int) (w : World) (e : Ending) (w' : World) : Prop := ∃ A cap, e = .returned (.slice A ms.length cap) ∧ IA w' w'.heap.size A ms ∧ Below w.heap.size w w'
theorem one_new (W : World) (a : Value) (t : TypeId) : ∀ j u, [a][j]? = some u → (W.alloc (.cells #[a] t)).cell? ((⟨W.heap.size, 0, none⟩ : Addr).add j) = some u := by
  intro j u hj
  rw [Addr.add_lit]
  rcases j with _ | j
  · simp at hj; subst hj; go_simp
  · simp at hj
theorem OwnI.snoc {w : World} {base : Nat} {v : Value} {ms : List Int} {x : Int} (h : w.ownsRow base 3 1 v (ms.length + 1) (ms.map encZ ++ [.int .i64 x])) : OwnI w base v (ms ++ [x]) := by
  unfold OwnI
  rw [List.length_append, List.map_append]
  exact h

set_option maxRecDepth 100000 in
set_option maxHeartbeats 4000000 in
theorem radd_any (S : List Int) (x : Int) (A : Option Addr) (cap B : Nat) (w : World) (hv : IA w B A S) (hB : B ≤ w.heap.size) (hS : AscI S) (hlen : S.length ≤ 1000000000) :
    Calls Tryd.prog 67 #[.slice A S.length cap, .int .i64 x] w (GivesIA (insS x S) w) := by
  obtain ⟨i0, hi, hz0, hz1, hz2⟩ := info_parts info_int
  have HV := Lib.hid hv
  clear hv
  go_enter Tryd.func67, Tryd.ntmps67
  go_wp2_with fail
  go_loopw [5, 6, 7] (fun s5 s6 s7 wr => ∃ (j : Nat) (v : Value), j ≤ S.length ∧ s5 = v ∧ s6 = .bool ((S.take j).any (fun y => decide (x < y))) ∧ s7 = .int .i64 (j : Int) ∧ x ∉ S.take j ∧ OwnI wr w.heap.size v (adO x (S.take j)) ∧ Below w.heap.size w wr) (fun _ _ s7 _ => S.length - (intOf s7).toNat)
  case atStart => exact ⟨0, .slice none 0 0, Nat.zero_le _, rfl, rfl, rfl, by simp, World.ownsRow_nil _ _ _ _, Below.refl _ _⟩
  case round =>
    obtain ⟨j, v, hj, rfl, rfl, rfl, hx, ho, hb⟩ := hrel
    have HO := Lib.hid ho
    have HB := Lib.hid hb
    have HX := Lib.hid hx
    have hal := adO_len x (S.take j)
    rw [List.length_take] at hal
    clear ho hb hx
    have hsz := HB.out.size
    by_cases hjl : j < S.length
    · obtain ⟨b, off, rfl, hbB, hc⟩ := (HV.out.below HB.out hB).at_ hjl
      have hg : S.getD j 0 = S[j] := by rw [List.getD_eq_getElem?_getD, List.getElem?_eq_getElem hjl]; rfl
      have ht : S.take (j + 1) = S.take j ++ [S[j]] := by rw [List.take_succ_eq_append_getElem hjl]
      rw [hg] at hc
      have HT := Lib.hid ht
      have HM : Hid (S[j] ∈ S) := Lib.hid (List.getElem_mem hjl)
      clear hg ht
      generalize S[j] = y at *
      by_cases hxy : y = x
      · subst hxy
        have hq := insS_in hS HM.out
        have HQ := Lib.hid hq
        clear hq
        go_wp2
        go_ret
        exact ⟨_, _, by rw [HQ.out]; rfl, by rw [HQ.out]; exact (HV.out.below HB.out hB).more (by omega), HB.out⟩
      · have HXY : Hid (x ∉ S.take (j + 1)) := Lib.hid (by
          rw [HT.out, List.mem_append, List.mem_singleton]
          rintro (h | h)
          · exact HX.out h
          · exact hxy h.symm)
        have dxy : (y == x) = false := by simpa using hxy
        clear hxy
        rcases hd : (S.take j).any (fun y => decide (x < y)) with _ | _
        · by_cases hlt : x < y
          · have HE : Hid (adO x (S.take (j + 1)) = adO x (S.take j) ++ [x] ++ [y]) := Lib.hid (by rw [HT.out]; exact adO_now hd hlt)
            have HD : Hid ((S.take (j + 1)).any (fun y => decide (x < y)) = true) := Lib.hid (by rw [HT.out, any_snoc, decide_eq_true hlt, Bool.or_true])
            have dlt : decide (x < y) = true := decide_eq_true hlt
            clear hd hlt
            go_wp2_with (at_builtin; refine wpList_append_own _ rfl _ _ 39 rfl w.heap.size 3 i0 (.int .i64 0) 1 8 Tryd.underlying39 hi hz0 hz1 hz2 rfl (by decide) _ _ _ rfl (World.ownsRow.alloc HO.out _) ⟨wr.heap.size, 0, none⟩ 1 1 [.int .i64 x] rfl ?qc1 ?qc2 ?qc3 ?qc4 ?qc5 ?qc6 ?_)
            case qc1 => rfl
            case qc2 => exact one_new _ _ _
            case qc3 => intro u hu; simp at hu; subst hu; rfl
            case qc4 => (try simp only [List.length_append, List.length_singleton]); unfold maxLen; omega
            case qc5 => (try simp only [List.length_append, List.length_singleton]); omega
            case qc6 => simp; omega
            intro v5 w5 hown hgrow _
            have hb5 : Below w.heap.size wr w5 := ((Below.refl _ _).alloc (by omega) _).grown hgrow (by simp; omega) (fun q hq => by have := World.ownsRow.lt HO.out q hq; omega)
            have HO5 := Lib.hid (OwnI.snoc hown)
            have HB5 := Lib.hid (HB.out.trans hb5)
            have hsw5 := hb5.size
            clear hown hgrow
            replace hc := (hb5.cell (p := ⟨b, off + j, none⟩) (by show b < w.heap.size; omega)).trans hc
            clear hb5
            go_wp2_with (at_builtin; refine wpList_append_own _ rfl _ _ 39 rfl w.heap.size 3 i0 (.int .i64 0) 1 8 Tryd.underlying39 hi hz0 hz1 hz2 rfl (by decide) _ _ _ rfl (World.ownsRow.alloc HO5.out _) ⟨w5.heap.size, 0, none⟩ 1 1 [.int .i64 y] rfl ?qc1 ?qc2 ?qc3 ?qc4 ?qc5 ?qc6 ?_)
            case qc1 => rfl
            case qc2 => exact one_new _ _ _
            case qc3 => intro u hu; simp at hu; subst hu; rfl
            case qc4 => (try simp only [List.length_append, List.length_singleton]); unfold maxLen; omega
            case qc5 => (try simp only [List.length_append, List.length_singleton]); omega
            case qc6 => simp; omega
            intro v6 w6 hown hgrow _
            have hb6 : Below w.heap.size w5 w6 := ((Below.refl _ _).alloc (by omega) _).grown hgrow (by simp; omega) (fun q hq => by have := World.ownsRow.lt HO5.out q hq; omega)
            have HO6 : Hid (OwnI w6 w.heap.size v6 (adO x (S.take j) ++ [x] ++ [y])) := Lib.hid (by unfold OwnI; simpa [encZ] using hown)
            have HB6 := Lib.hid (HB5.out.trans hb6)
            have hsw6 := hb6.size
            clear hown hgrow
            clear hb6
            go_wp2
            go_roundw
            case rel => exact ⟨j + 1, _, by omega, rfl, by rw [HD.out], by congr 1, HXY.out, by rw [HE.out]; exact HO6.out, HB6.out⟩
            case measure => simp [intOf]; omega
          · have HE : Hid (adO x (S.take (j + 1)) = adO x (S.take j) ++ [y]) := Lib.hid (by rw [HT.out]; exact adO_not hd hlt)
            have HD : Hid ((S.take (j + 1)).any (fun y => decide (x < y)) = false) := Lib.hid (by rw [HT.out, any_snoc, hd, decide_eq_false hlt]; rfl)
            have dlt : decide (x < y) = false := decide_eq_false hlt
            clear hd hlt
            go_wp2_with (at_builtin; refine wpList_append_own _ rfl _ _ 39 rfl w.heap.size 3 i0 (.int .i64 0) 1 8 Tryd.underlying39 hi hz0 hz1 hz2 rfl (by decide) _ _ _ rfl (World.ownsRow.alloc HO.out _) ⟨wr.heap.size, 0, none⟩ 1 1 [.int .i64 y] rfl ?qc1 ?qc2 ?qc3 ?qc4 ?qc5 ?qc6 ?_)
            case qc1 => rfl
            case qc2 => exact one_new _ _ _
            case qc3 => intro u hu; simp at hu; subst hu; rfl
            case qc4 => (try simp only [List.length_append, List.length_singleton]); unfold maxLen; omega
            case qc5 => (try simp only [List.length_append, List.length_singleton]); omega
            case qc6 => simp; omega
            intro v5 w5 hown hgrow _
            have hb5 : Below w.heap.size wr w5 := ((Below.refl _ _).alloc (by omega) _).grown hgrow (by simp; omega) (fun q hq => by have := World.ownsRow.lt HO.out q hq; omega)
            have HO5 := Lib.hid (OwnI.snoc hown)
            have HB5 := Lib.hid (HB.out.trans hb5)
            have hsw5 := hb5.size
            clear hown hgrow
            clear hb5
            go_wp2
            go_roundw
            case rel => exact ⟨j + 1, _, by omega, rfl, by rw [HD.out], by congr 1, HXY.out, by rw [HE.out]; exact HO5.out, HB5.out⟩
            case measure => simp [intOf]; omega
        · by_cases hlt : x < y
          · have HE : Hid (adO x (S.take (j + 1)) = adO x (S.take j) ++ [y]) := Lib.hid (by rw [HT.out]; exact adO_old hd)
            have HD : Hid ((S.take (j + 1)).any (fun y => decide (x < y)) = true) := Lib.hid (by rw [HT.out, any_snoc, hd]; rfl)
            have dlt : decide (x < y) = true := decide_eq_true hlt
            clear hd hlt
            go_wp2_with (at_builtin; refine wpList_append_own _ rfl _ _ 39 rfl w.heap.size 3 i0 (.int .i64 0) 1 8 Tryd.underlying39 hi hz0 hz1 hz2 rfl (by decide) _ _ _ rfl (World.ownsRow.alloc HO.out _) ⟨wr.heap.size, 0, none⟩ 1 1 [.int .i64 y] rfl ?qc1 ?qc2 ?qc3 ?qc4 ?qc5 ?qc6 ?_)
            case qc1 => rfl
            case qc2 => exact one_new _ _ _
            case qc3 => intro u hu; simp at hu; subst hu; rfl
            case qc4 => (try simp only [List.length_append, List.length_singleton]); unfold maxLen; omega
            case qc5 => (try simp only [List.length_append, List.length_singleton]); omega
            case qc6 => simp; omega
            intro v5 w5 hown hgrow _
            have hb5 : Below w.heap.size wr w5 := ((Below.refl _ _).alloc (by omega) _).grown hgrow (by simp; omega) (fun q hq => by have := World.ownsRow.lt HO.out q hq; omega)
            have HO5 := Lib.hid (OwnI.snoc hown)
            have HB5 := Lib.hid (HB.out.trans hb5)
            have hsw5 := hb5.size
            clear hown hgrow
            clear hb5
            go_wp2
            go_roundw
            case rel => exact ⟨j + 1, _, by omega, rfl, by rw [HD.out], by congr 1, HXY.out, by rw [HE.out]; exact HO5.out, HB5.out⟩
            case measure => simp [intOf]; omega
          · have HE : Hid (adO x (S.take (j + 1)) = adO x (S.take j) ++ [y]) := Lib.hid (by rw [HT.out]; exact adO_old hd)
            have HD : Hid ((S.take (j + 1)).any (fun y => decide (x < y)) = true) := Lib.hid (by rw [HT.out, any_snoc, hd]; rfl)
            have dlt : decide (x < y) = false := decide_eq_false hlt
            clear hd hlt
            go_wp2_with (at_builtin; refine wpList_append_own _ rfl _ _ 39 rfl w.heap.size 3 i0 (.int .i64 0) 1 8 Tryd.underlying39 hi hz0 hz1 hz2 rfl (by decide) _ _ _ rfl (World.ownsRow.alloc HO.out _) ⟨wr.heap.size, 0, none⟩ 1 1 [.int .i64 y] rfl ?qc1 ?qc2 ?qc3 ?qc4 ?qc5 ?qc6 ?_)
            case qc1 => rfl
            case qc2 => exact one_new _ _ _
            case qc3 => intro u hu; simp at hu; subst hu; rfl
            case qc4 => (try simp only [List.length_append, List.length_singleton]); unfold maxLen; omega
            case qc5 => (try simp only [List.length_append, List.length_singleton]); omega
            case qc6 => simp; omega
            intro v5 w5 hown hgrow _
            have hb5 : Below w.heap.size wr w5 := ((Below.refl _ _).alloc (by omega) _).grown hgrow (by simp; omega) (fun q hq => by have := World.ownsRow.lt HO.out q hq; omega)
            have HO5 := Lib.hid (OwnI.snoc hown)
            have HB5 := Lib.hid (HB.out.trans hb5)
            have hsw5 := hb5.size
            clear hown hgrow
            clear hb5
            go_wp2
            go_roundw
            case rel => exact ⟨j + 1, _, by omega, rfl, by rw [HD.out], by congr 1, HXY.out, by rw [HE.out]; exact HO5.out, HB5.out⟩
            case measure => simp [intOf]; omega
    · have he : S.take j = S := List.take_of_length_le (by omega)
      have hd2 : decide ((j : Int) < (S.length : Int)) = false := by rw [decide_eq_false_iff_not]; omega
      rw [he] at HO HX hal
      rw [he]
      clear he
      rcases hd : S.any (fun y => decide (x < y)) with _ | _
      · have HE := Lib.hid (adO_end' HX.out hd)
        clear hd
        go_wp2_with (at_builtin; refine wpList_append_own _ rfl _ _ 39 rfl w.heap.size 3 i0 (.int .i64 0) 1 8 Tryd.underlying39 hi hz0 hz1 hz2 rfl (by decide) _ _ _ rfl (World.ownsRow.alloc HO.out _) ⟨wr.heap.size, 0, none⟩ 1 1 [.int .i64 x] rfl ?qc1 ?qc2 ?qc3 ?qc4 ?qc5 ?qc6 ?_)
        case qc1 => rfl
        case qc2 => exact one_new _ _ _
        case qc3 => intro u hu; simp at hu; subst hu; rfl
        case qc4 => (try simp only [List.length_append, List.length_singleton]); unfold maxLen; omega
        case qc5 => (try simp only [List.length_append, List.length_singleton]); omega
        case qc6 => simp; omega
        intro v5 w5 hown hgrow _
        have hb5 : Below w.heap.size wr w5 := ((Below.refl _ _).alloc (by omega) _).grown hgrow (by simp; omega) (fun q hq => by have := World.ownsRow.lt HO.out q hq; omega)
        have HO5 := Lib.hid (OwnI.snoc hown)
        have HB5 := Lib.hid (HB.out.trans hb5)
        have hsw5 := hb5.size
        clear hown hgrow
        rw [HE.out] at HO5
        have hl5 := insS_length x S
        obtain ⟨A5, c5, rfl, hia⟩ := ia_of HO5.out (by omega)
        have HIA := Lib.hid hia
        clear hb5 hia
        go_wp2
        go_ret
        exact ⟨A5, c5, rfl, HIA.out, HB5.out⟩
      · have HE := Lib.hid (adO_end HX.out hd)
        clear hd
        rw [HE.out] at HO
        have hl5 := insS_length x S
        obtain ⟨A5, c5, rfl, hia⟩ := ia_of HO.out (by omega)
        have HIA := Lib.hid hia
        clear hia
        go_wp2
        go_ret
        exact ⟨A5, c5, rfl, HIA.out, HB.out⟩
end Go.Proofs.YtbiifkpelldciaaDoor
