/- scope.check: the error of a node in a scope. -/
import Derived.Test.YtbiifkpelldciaaDoorHfm
import Derived.Test.YtbiifkpelldciaaDoorLvc
import Derived.Test.YtbiifkpelldciaaDoorNmw
import Derived.Test.YtbiifkpelldciaaDoorFwk
import Derived.Deep.DeepCutAuto
namespace Go.Proofs.YtbiifkpelldciaaDoor
open Go.RowKit

/-- The error of the first level that has one. -/
def lvsE (params levels : Int) : List (Int × List (Int × Int)) → Int
  | [] => 0
  | l :: r => if lvE params levels l.1 l.2 = 0 then lvsE params levels r else lvE params levels l.1 l.2
theorem lvsE_drop {params levels : Int} {ls : List (Int × List (Int × Int))} {j : Nat} (hj : j < ls.length) : lvsE params levels (ls.drop j) = if lvE params levels ls[j].1 ls[j].2 = 0 then lvsE params levels (ls.drop (j + 1)) else lvE params levels ls[j].1 ls[j].2 := by
  rw [← List.getElem_cons_drop hj]
  rfl
/-- The last part of the check of a node. -/
def endN (vars metas k i b : Int) : Int := if (k == 0 && (decide (i < 0) || decide (vars ≤ wrap64 (i - b)))) = true then 24 else if (k == 12 && (decide (i < 0) || decide (metas ≤ i))) = true then 23 else 0
/-- The error of a node. -/
def chkN (vars params metas levels k i b : Int) (nm : ByteArray) (ls : List (Int × List (Int × Int))) (nk : Nat) : Int :=
  if formB k i nm ls.length nk = false then 3
  else if (k == 3 && !nameB nm) = true then 29
  else if (k == 3 && decide (8 < ls.length)) = true then 6
  else if lvsE params levels ls ≠ 0 then lvsE params levels ls
  else endN vars metas k i b

/-- A scope and a node in their boxes, and the node's cells. -/
structure NdS (w : World) (vars params metas levels k i bn dp : Int) (b off : Nat) (nm : ByteArray) (AL : Option Addr) (nl cl : Nat) (wx : World) : Prop where
  s0 : wx.cell? ⟨w.heap.size, 0, none⟩ = some (.int .i64 vars)
  s1 : wx.cell? ⟨w.heap.size, 1, none⟩ = some (.int .i64 params)
  s2 : wx.cell? ⟨w.heap.size, 2, none⟩ = some (.int .i64 metas)
  s3 : wx.cell? ⟨w.heap.size, 3, none⟩ = some (.int .i64 levels)
  n0 : wx.cell? ⟨w.heap.size + 1, 0, none⟩ = some (.pointer (some ⟨b, off, none⟩))
  n1 : wx.cell? ⟨w.heap.size + 1, 1, none⟩ = some (.int .i64 bn)
  n2 : wx.cell? ⟨w.heap.size + 1, 2, none⟩ = some (.int .i64 dp)
  c0 : wx.cell? ⟨b, off, none⟩ = some (.int .i64 k)
  c1 : wx.cell? ⟨b, off + 1, none⟩ = some (.int .i64 i)
  c2 : wx.cell? ⟨b, off + 2, none⟩ = some (.string nm)
  c3 : wx.cell? ⟨b, off + 3, none⟩ = some (.slice AL nl cl)
  below : Below w.heap.size w wx
  size : w.heap.size + 1 < wx.heap.size
namespace NdS
variable {w wx wy : World} {vars params metas levels k i bn dp : Int} {b off : Nat} {nm : ByteArray} {AL : Option Addr} {nl cl : Nat}
theorem next (h : NdS w vars params metas levels k i bn dp b off nm AL nl cl wx) (hb : Below wx.heap.size wx wy) : NdS w vars params metas levels k i bn dp b off nm AL nl cl wy := by
  have hk : ∀ (p : Addr) (v : Value), wx.cell? p = some v → wy.cell? p = some v := fun p v hv => (hb.cell (World.block_lt_of_cell? wx p hv)).trans hv
  exact ⟨hk _ _ h.s0, hk _ _ h.s1, hk _ _ h.s2, hk _ _ h.s3, hk _ _ h.n0, hk _ _ h.n1, hk _ _ h.n2, hk _ _ h.c0, hk _ _ h.c1, hk _ _ h.c2, hk _ _ h.c3, h.below.trans (hb.mono (by have := h.size; omega)), Nat.lt_of_lt_of_le h.size hb.size⟩
theorem start (h0 : w.cell? ⟨b, off, none⟩ = some (.int .i64 k)) (h1 : w.cell? ⟨b, off + 1, none⟩ = some (.int .i64 i)) (h2 : w.cell? ⟨b, off + 2, none⟩ = some (.string nm)) (h3 : w.cell? ⟨b, off + 3, none⟩ = some (.slice AL nl cl)) :
    NdS w vars params metas levels k i bn dp b off nm AL nl cl ((w.alloc (.cells #[.int .i64 vars, .int .i64 params, .int .i64 metas, .int .i64 levels] 89)).alloc (.cells #[.pointer (some ⟨b, off, none⟩), .int .i64 bn, .int .i64 dp] 68)) := by
  have hb : Below w.heap.size w ((w.alloc (.cells #[.int .i64 vars, .int .i64 params, .int .i64 metas, .int .i64 levels] 89)).alloc (.cells #[.pointer (some ⟨b, off, none⟩), .int .i64 bn, .int .i64 dp] 68)) := ((Below.refl _ _).alloc (Nat.le_refl _) _).alloc (by simp) _
  have hk : ∀ (p : Addr) (v : Value), w.cell? p = some v → ((w.alloc (.cells #[.int .i64 vars, .int .i64 params, .int .i64 metas, .int .i64 levels] 89)).alloc (.cells #[.pointer (some ⟨b, off, none⟩), .int .i64 bn, .int .i64 dp] 68)).cell? p = some v := fun p v hv => (hb.cell (World.block_lt_of_cell? w p hv)).trans hv
  exact ⟨by go_simp, by go_simp, by go_simp, by go_simp, by go_simp, by go_simp, by go_simp, hk _ _ h0, hk _ _ h1, hk _ _ h2, hk _ _ h3, hb, by simp⟩
end NdS

set_option maxRecDepth 100000 in
set_option maxHeartbeats 8000000 in
theorem schk_any (b off : Nat) (vars params metas levels k i bn dp : Int) (nm : ByteArray) (AL : Option Addr) (cl : Nat) (ls : List (Int × List (Int × Int))) (AK : Option Addr) (nk ck B : Nat) (w : World) (h0 : w.cell? ⟨b, off, none⟩ = some (.int .i64 k)) (h1 : w.cell? ⟨b, off + 1, none⟩ = some (.int .i64 i))
    (h2 : w.cell? ⟨b, off + 2, none⟩ = some (.string nm)) (h3 : w.cell? ⟨b, off + 3, none⟩ = some (.slice AL ls.length cl)) (h4 : w.cell? ⟨b, off + 4, none⟩ = some (.slice AK nk ck)) (hls : LvsA w B AL ls) (hB : B ≤ w.heap.size) (hsh : Shapes w) (hw : 0 < w.heap.size) :
    Calls Tryd.prog 54 #[.agg #[.int .i64 vars, .int .i64 params, .int .i64 metas, .int .i64 levels], .agg #[.pointer (some ⟨b, off, none⟩), .int .i64 bn, .int .i64 dp]] w fun e w' => e = .returned (.int .i64 (chkN vars params metas levels k i bn nm ls nk)) ∧ Below w.heap.size w w' := by
  obtain ⟨W0, hW0⟩ : ∃ W0, W0 = (w.alloc (.cells #[.int .i64 vars, .int .i64 params, .int .i64 metas, .int .i64 levels] 89)).alloc (.cells #[.pointer (some ⟨b, off, none⟩), .int .i64 bn, .int .i64 dp] 68) := ⟨_, rfl⟩
  have S0 : NdS w vars params metas levels k i bn dp b off nm AL ls.length cl W0 := by rw [hW0]; exact NdS.start h0 h1 h2 h3
  have hF := Lib.hid (hasForm_any b off k i bn dp nm AL ls.length cl AK nk ck W0 S0.c0 S0.c1 S0.c2 S0.c3 ((S0.below.cell (World.block_lt_of_cell? w _ h4)).trans h4) (hsh.below S0.below hw) (by have := S0.size; omega))
  have HW0 := Lib.hid S0
  obtain ⟨s0, s1, s2, s3, n0, n1, n2, c0, c1, c2, c3, _, _⟩ := S0
  clear h0 h1 h2 h3 h4 hsh
  go_enter Tryd.func54, Tryd.ntmps54
  go_wp2_with fail
  rw [← hW0]
  clear hW0
  go_wp2_with fail
  refine hF.out.mono ?_
  clear hF
  rintro e w1 ⟨rfl, hb1⟩
  have S1 := Lib.hid (HW0.out.next hb1)
  clear s0 s1 s2 s3 n0 n1 n2 c0 c1 c2 c3 hb1 HW0
  obtain ⟨s0, s1, s2, s3, n0, n1, n2, c0, c1, c2, c3, hbl, hsz⟩ := S1.out
  cases hf : formB k i nm ls.length nk with
  | false =>
    have HC : Hid (chkN vars params metas levels k i bn nm ls nk = 3) := Lib.hid (by unfold chkN; rw [if_pos hf])
    clear hf
    go_wp2_with fail
    go_ret
    exact ⟨ret_int HC.out.symm, hbl⟩
  | true =>
    have HF := Lib.hid hf
    clear hf
    have hna := Lib.hid (name_any nm w1)
    go_upto_if 16 with fail
    go_cut [] from 16 to 30 (fun wx => wx = w1 ∧ Hid ((k == 3 && !nameB nm) = false ∧ (k == 3 && decide (8 < ls.length)) = false))
    case first =>
      cases hk3 : k == 3 with
      | true =>
        go_wp2_with fail
        refine hna.out.mono ?_
        rintro e w2 ⟨rfl, hw2⟩
        have hw2' := hw2.symm
        subst hw2'
        clear hw2
        cases hnb : nameB nm with
        | false =>
          have HC : Hid (chkN vars params metas levels k i bn nm ls nk = 29) := Lib.hid (by unfold chkN; rw [if_neg (by rw [HF.out]; decide), if_pos (by rw [hk3, hnb]; rfl)])
          clear hk3 hnb
          go_wp2_with fail
          go_ret
          exact ⟨ret_int HC.out.symm, hbl⟩
        | true =>
          cases h8 : decide (8 < ls.length) with
          | true =>
            have HC : Hid (chkN vars params metas levels k i bn nm ls nk = 6) := Lib.hid (by unfold chkN; rw [if_neg (by rw [HF.out]; decide), if_neg (by rw [hk3, hnb]; decide), if_pos (by rw [hk3, h8]; rfl)])
            have h8n : 8 < ls.length := of_decide_eq_true h8
            have h8i : decide ((8 : Int) < (ls.length : Int)) = true := by rw [decide_eq_true_iff]; omega
            clear hk3 hnb h8
            go_wp2_with fail
            go_ret
            exact ⟨ret_int HC.out.symm, hbl⟩
          | false =>
            have HC : Hid ((k == 3 && !nameB nm) = false ∧ (k == 3 && decide (8 < ls.length)) = false) := Lib.hid ⟨by rw [hk3, hnb]; rfl, by rw [hk3, h8]; rfl⟩
            have h8n : ¬ 8 < ls.length := of_decide_eq_false h8
            have h8i : decide ((8 : Int) < (ls.length : Int)) = false := by rw [decide_eq_false_iff_not]; omega
            clear hk3 hnb h8
            go_wp2_with fail
            go_meet
            case rel => exact ⟨rfl, HC⟩
      | false =>
        have HC : Hid ((k == 3 && !nameB nm) = false ∧ (k == 3 && decide (8 < ls.length)) = false) := Lib.hid ⟨by rw [hk3]; rfl, by rw [hk3]; rfl⟩
        clear hk3
        go_wp2_with fail
        go_meet
        case rel => exact ⟨rfl, HC⟩
    case rest =>
      obtain ⟨rfl, HK⟩ := hcut
      clear hna
      go_wp2_with fail
      have hlsl : ls.length ≤ 4398046511104 := by have := hls.1; omega
      go_loopw [37] (fun v wx => ∃ j : Nat, j ≤ ls.length ∧ v = .int .i64 (j : Int) ∧ Hid (lvsE params levels ls = lvsE params levels (ls.drop j)) ∧ NdS w vars params metas levels k i bn dp b off nm AL ls.length cl wx) (fun v _ => ls.length - (intOf v).toNat)
      case atStart => exact ⟨0, Nat.zero_le _, rfl, Lib.hid rfl, S1.out⟩
      case round =>
        obtain ⟨j, hj, rfl, HJ, hS⟩ := hrel
        have HS := Lib.hid hS
        clear s0 s1 s2 s3 n0 n1 n2 c0 c1 c2 c3 hbl hsz
        obtain ⟨s0, s1, s2, s3, n0, n1, n2, c0, c1, c2, c3, hbl, hsz⟩ := hS
        by_cases hjl : j < ls.length
        · obtain ⟨lb, lo, A', cap', rfl, hlb, hc0, hc1, hva⟩ := (hls.below hbl hB).at_ hjl
          have HD := Lib.hid (lvsE_drop (params := params) (levels := levels) hjl)
          generalize hgl : ls[j] = lj at *
          obtain ⟨lc, lvs⟩ := lj
          clear hgl
          have hwl : w.heap.size < wr.heap.size := by omega
          have s0a : ∀ o, (wr.alloc o).cell? ⟨w.heap.size, 0, none⟩ = some (.int .i64 vars) := fun o => (World.cell?_alloc_lt wr o ⟨w.heap.size, 0, none⟩ hwl).trans s0
          have s1a : ∀ o, (wr.alloc o).cell? ⟨w.heap.size, 1, none⟩ = some (.int .i64 params) := fun o => (World.cell?_alloc_lt wr o ⟨w.heap.size, 1, none⟩ hwl).trans s1
          have s2a : ∀ o, (wr.alloc o).cell? ⟨w.heap.size, 2, none⟩ = some (.int .i64 metas) := fun o => (World.cell?_alloc_lt wr o ⟨w.heap.size, 2, none⟩ hwl).trans s2
          have s3a : ∀ o, (wr.alloc o).cell? ⟨w.heap.size, 3, none⟩ = some (.int .i64 levels) := fun o => (World.cell?_alloc_lt wr o ⟨w.heap.size, 3, none⟩ hwl).trans s3
          have hba : ∀ o, Below wr.heap.size wr (wr.alloc o) := fun o => (Below.refl _ _).alloc (Nat.le_refl _) _
          have HCL := Lib.hid (fun o => checkLevel_any vars params metas levels lc A' cap' lvs B (wr.alloc o) (hva.below (hba o) (by omega)) (by simp; omega))
          have HNX := Lib.hid (fun o w2 (h : Below (wr.alloc o).heap.size (wr.alloc o) w2) => HS.out.next ((hba o).trans (h.mono (by simp))))
          clear hva hba
          go_wp2_with fail
          refine (HCL.out _).mono ?_
          rintro e w2 ⟨rfl, hb2⟩
          have HS2 := Lib.hid (HNX.out _ _ hb2)
          clear hb2 HCL HNX HS s0a s1a s2a s3a s0 s1 s2 s3 n0 n1 n2 c0 c1 c2 c3 hc0 hc1
          obtain ⟨ev, hev⟩ : ∃ ev, lvE params levels lc lvs = ev := ⟨_, rfl⟩
          have HEV := Lib.hid hev
          rw [hev]
          clear hev
          cases h0 : (ev == 0) with
          | true =>
            have hz : lvsE params levels ls = lvsE params levels (ls.drop (j + 1)) := by
              rw [HJ.out, HD.out, HEV.out, if_pos (by simpa using h0)]
            have HZ := Lib.hid hz
            clear hz
            go_wp2_with fail
            go_roundw
            case rel => exact ⟨j + 1, hjl, rfl, HZ, HS2.out⟩
            case measure => simp [intOf]; omega
          | false =>
            have hne : ev ≠ 0 := by simpa using h0
            have hz : lvsE params levels ls = ev := by rw [HJ.out, HD.out, HEV.out, if_neg hne]
            have HC : Hid (chkN vars params metas levels k i bn nm ls nk = ev) := Lib.hid (by
              unfold chkN
              rw [if_neg (by rw [HF.out]; decide), if_neg (by rw [HK.out.1]; decide), if_neg (by rw [HK.out.2]; decide), hz, if_pos hne])
            clear hz hne
            go_wp2_with fail
            go_ret
            exact ⟨ret_int HC.out.symm, HS2.out.below⟩
        · have hz : lvsE params levels ls = 0 := by rw [HJ.out, List.drop_of_length_le (by omega)]; rfl
          have HE : Hid (chkN vars params metas levels k i bn nm ls nk = endN vars metas k i bn) := Lib.hid (by
            unfold chkN
            rw [if_neg (by rw [HF.out]; decide), if_neg (by rw [HK.out.1]; decide), if_neg (by rw [HK.out.2]; decide), hz, if_neg (by simp)])
          have hjn : ¬ j < ls.length := hjl
          have hji : decide ((j : Int) < (ls.length : Int)) = false := by rw [decide_eq_false_iff_not]; omega
          clear hz hjl HJ HS
          cases hk0 : (k == 0) with
          | true =>
            have hk12 : (k == 12) = false := by have := eq_of_beq hk0; subst this; rfl
            cases hi : decide (i < 0) with
            | true =>
              have HC : Hid (chkN vars params metas levels k i bn nm ls nk = 24) := Lib.hid (by rw [HE.out]; unfold endN; rw [hk0, hi]; rfl)
              go_wp2_with fail
              go_quiet (fail)
              go_wp2_with fail
              go_ret
              exact ⟨ret_int HC.out.symm, Below.drewN' hbl _⟩
            | false =>
              cases hv : decide (vars ≤ wrap64 (i - bn)) with
              | true =>
                have HC : Hid (chkN vars params metas levels k i bn nm ls nk = 24) := Lib.hid (by rw [HE.out]; unfold endN; rw [hk0, hi, hv]; rfl)
                go_wp2_with fail
                go_quiet (fail)
                go_wp2_with fail
                go_ret
                exact ⟨ret_int HC.out.symm, Below.drewN' hbl _⟩
              | false =>
                have HC : Hid (chkN vars params metas levels k i bn nm ls nk = 0) := Lib.hid (by rw [HE.out]; unfold endN; rw [hk0, hi, hv, hk12]; rfl)
                go_wp2_with fail
                go_quiet (fail)
                revert nq
                intro q1
                go_wp2_with fail
                go_quiet (fail)
                go_wp2_with fail
                go_ret
                exact ⟨ret_int HC.out.symm, by first | exact Below.drewN' hbl _ | exact Below.drewN' (Below.drewN' hbl _) _⟩
          | false =>
            cases hk12 : (k == 12) with
            | false =>
              have HC : Hid (chkN vars params metas levels k i bn nm ls nk = 0) := Lib.hid (by rw [HE.out]; unfold endN; rw [hk0, hk12]; rfl)
              go_wp2_with fail
              go_quiet (fail)
              revert nq
              intro q1
              go_wp2_with fail
              go_quiet (fail)
              go_wp2_with fail
              go_ret
              exact ⟨ret_int HC.out.symm, by first | exact Below.drewN' hbl _ | exact Below.drewN' (Below.drewN' hbl _) _⟩
            | true =>
              cases hi : decide (i < 0) with
              | true =>
                have HC : Hid (chkN vars params metas levels k i bn nm ls nk = 23) := Lib.hid (by rw [HE.out]; unfold endN; rw [hk0, hk12, hi]; rfl)
                go_wp2_with fail
                go_quiet (fail)
                revert nq
                intro q1
                go_wp2_with fail
                go_quiet (fail)
                go_wp2_with fail
                go_ret
                exact ⟨ret_int HC.out.symm, by first | exact Below.drewN' hbl _ | exact Below.drewN' (Below.drewN' hbl _) _⟩
              | false =>
                cases hm : decide (metas ≤ i) with
                | true =>
                  have HC : Hid (chkN vars params metas levels k i bn nm ls nk = 23) := Lib.hid (by rw [HE.out]; unfold endN; rw [hk0, hk12, hi, hm]; rfl)
                  go_wp2_with fail
                  go_quiet (fail)
                  revert nq
                  intro q1
                  go_wp2_with fail
                  go_quiet (fail)
                  go_wp2_with fail
                  go_ret
                  exact ⟨ret_int HC.out.symm, by first | exact Below.drewN' hbl _ | exact Below.drewN' (Below.drewN' hbl _) _⟩
                | false =>
                  have HC : Hid (chkN vars params metas levels k i bn nm ls nk = 0) := Lib.hid (by rw [HE.out]; unfold endN; rw [hk0, hk12, hi, hm]; rfl)
                  go_wp2_with fail
                  go_quiet (fail)
                  revert nq
                  intro q1
                  go_wp2_with fail
                  go_quiet (fail)
                  go_wp2_with fail
                  go_ret
                  exact ⟨ret_int HC.out.symm, by first | exact Below.drewN' hbl _ | exact Below.drewN' (Below.drewN' hbl _) _⟩
end Go.Proofs.YtbiifkpelldciaaDoor
