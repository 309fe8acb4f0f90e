/- The reference: Depth. -/
import Derived.Test.YtbiifkpelldciaaDoorRsz
namespace Go.Proofs.YtbiifkpelldciaaDoor
open Go.RowKit

theorem dpT_kids (t : Tm) : dpT t = dpL t.kids + 1 := by cases t; simp [dpT, Tm.kids]
theorem dpL_append (a b : List Tm) : dpL (a ++ b) = max (dpL a) (dpL b) := by
  induction a with
  | nil => simp [dpL]
  | cons q r ih => simp only [List.cons_append, dpL, ih]; omega
theorem dpL_take {ks : List Tm} {j : Nat} {t : Tm} (h : ks[j]? = some t) : dpL (ks.take (j + 1)) = max (dpL (ks.take j)) (dpT t) := by
  rw [List.take_add_one, h, Option.toList_some, dpL_append]
  simp [dpL]
mutual
theorem dpT_le : ∀ t : Tm, dpT t ≤ szT t
  | .mk _ _ _ _ ks => by rw [dpT, szT]; have := dpL_le ks; omega
theorem dpL_le : ∀ ks : List Tm, dpL ks ≤ szL ks
  | [] => by rw [dpL, szL]; exact Nat.le_refl _
  | t :: r => by rw [dpL, szL]; have := dpT_le t; have := dpL_le r; omega
end

set_option maxRecDepth 100000 in
set_option maxHeartbeats 2000000 in
theorem rdepth_any : ∀ (n : Nat) (t : Tm) (v : Value) (B : Nat) (w : World), szT t ≤ n → n ≤ 1000000000 → TmV w B t v → B ≤ w.heap.size →
    Calls Tryd.prog 22 #[v] w fun e w' => e = .returned (.int .i64 (dpT t : Int)) ∧ Below w.heap.size w w' := by
  intro n
  induction n with
  | zero => intro t v B w h; have := szT_pos t; omega
  | succ n ih =>
    intro t v B w hsz hn hv hB
    have hk := szT_kids t
    obtain ⟨k, i, nm, AL, nl, cl, AK, ck, rfl, hlen, hkid⟩ := hv.open_
    have IH := Lib.hid ih
    have HK := Lib.hid hkid
    have HV := Lib.hid hv
    clear ih hkid hv
    generalize hks : t.kids = ks at *
    have HSZ := Lib.hid (And.intro hsz hk)
    clear hsz hk
    go_enter Tryd.func22, Tryd.ntmps22
    go_wp2_with fail
    go_loopw [3, 4] (fun v3 v4 wr => ∃ j : Nat, v3 = .int .i64 (dpL (ks.take j) : Int) ∧ v4 = .int .i64 (j : Int) ∧ j ≤ ks.length ∧ Below w.heap.size w wr ∧ w.heap.size < wr.heap.size ∧ wr.cell? ⟨w.heap.size, 4, none⟩ = some (.slice AK ks.length ck)) (fun _ v4 _ => ks.length - (intOf v4).toNat)
    case atStart => exact ⟨0, rfl, rfl, Nat.zero_le _, (Below.refl _ _).alloc (Nat.le_refl _) _, by simp, by go_simp⟩
    case round =>
      obtain ⟨j, rfl, rfl, hj, hb, hlt, hc⟩ := hrel
      by_cases hjl : j < ks.length
      · obtain ⟨b, off, rfl, hbB, k', i', nm', AL', nl', cl', AK', ck', h0, h1, h2, h3, h4, hq⟩ := HK.out j ks[j] (List.getElem?_eq_getElem hjl)
        have hbw : b < w.heap.size := by omega
        replace h0 := (hb.cell (p := ⟨b, off + j * 5, none⟩) hbw).trans h0
        replace h1 := (hb.cell (p := ⟨b, off + j * 5 + 1, none⟩) hbw).trans h1
        replace h2 := (hb.cell (p := ⟨b, off + j * 5 + 2, none⟩) hbw).trans h2
        replace h3 := (hb.cell (p := ⟨b, off + j * 5 + 3, none⟩) hbw).trans h3
        replace h4 := (hb.cell (p := ⟨b, off + j * 5 + 4, none⟩) hbw).trans h4
        have hst := dpL_take (List.getElem?_eq_getElem hjl)
        have hd1 := dpT_le ks[j]
        have hd2 := dpL_le (ks.take j)
        have hd3 := szL_take_le ks j
        have hle := szL_take_le ks (j + 1)
        have hpos := szT_pos ks[j]
        have hqs : szT ks[j] ≤ n := by have := HSZ.out; have := szL_mem (List.getElem_mem hjl); omega
        have hbig : (dpL (ks.take j) : Int) ≤ 1000000000 ∧ (dpT ks[j] : Int) ≤ 1000000000 := by have := HSZ.out; omega
        have HST := Lib.hid hst
        have HB := Lib.hid hb
        clear hst hle hb hd1 hd2 hd3
        go_wp2_with fail
        refine (IH.out ks[j] _ B wr hqs (by omega) (hq.below HB.out hB) (by have := HB.out.size; omega)).mono ?_
        rintro e w2 ⟨rfl, hb2⟩
        have hc2 := (hb2.cell (p := ⟨w.heap.size, 4, none⟩) hlt).trans hc
        have hlt2 := Nat.lt_of_lt_of_le hlt hb2.size
        have HB2 := Lib.hid (HB.out.trans (hb2.mono HB.out.size))
        clear hb2 h0 h1 h2 h3 h4 hq
        go_wp2
        go_roundw
        case rel => exact ⟨j + 1, by rw [HST.out]; congr 1; omega, by congr 1, by omega, HB2.out, hlt2, hc2⟩
        case measure => simp [intOf]; omega
      · have hdl := dpL_le ks
        have hdb : (dpL ks : Int) ≤ 1000000000 := by have := HSZ.out; omega
        have he : ks.take j = ks := List.take_of_length_le (by omega)
        have hd2 : decide ((j : Int) < (ks.length : Int)) = false := by rw [decide_eq_false_iff_not]; omega
        go_wp2
        go_ret
        exact ⟨ret_int (by rw [dpT_kids, hks]; omega), hb⟩
end Go.Proofs.YtbiifkpelldciaaDoor
