/- The reference: Size. -/
import Derived.Test.YtbiifkpelldciaaDoorTre
namespace Go.Proofs.YtbiifkpelldciaaDoor
open Go.RowKit

/-- What a node's value spells, for a walk. -/
theorem TmV.open_ {w : World} {B : Nat} {t : Tm} {v : Value} (h : TmV w B t v) : ∃ (k i : Int) (nm : ByteArray) (AL : Option Addr) (nl cl : Nat) (AK : Option Addr) (ck : Nat), v = .agg #[.int .i64 k, .int .i64 i, .string nm, .slice AL nl cl, .slice AK t.kids.length ck] ∧ t.kids.length ≤ 1759218604441 ∧ (∀ j q, t.kids[j]? = some q → ∃ b off, AK = some ⟨b, off, none⟩ ∧ b < B ∧ ∃ k' i' nm' AL' nl' cl' AK' ck', w.cell? ⟨b, off + j * 5, none⟩ = some (.int .i64 k') ∧ w.cell? ⟨b, off + j * 5 + 1, none⟩ = some (.int .i64 i') ∧ w.cell? ⟨b, off + j * 5 + 2, none⟩ = some (.string nm') ∧ w.cell? ⟨b, off + j * 5 + 3, none⟩ = some (.slice AL' nl' cl') ∧ w.cell? ⟨b, off + j * 5 + 4, none⟩ = some (.slice AK' q.kids.length ck') ∧ TmV w B q (.agg #[.int .i64 k', .int .i64 i', .string nm', .slice AL' nl' cl', .slice AK' q.kids.length ck'])) := by
  cases t with
  | mk k i nm ls ks =>
    rw [TmV] at h
    obtain ⟨AL, cl, AK, ck, rfl, hl, hz, hks⟩ := h
    refine ⟨k, i, nm, AL, ls.length, cl, AK, ck, rfl, by simp only [Tm.kids]; omega, fun j q hj => ?_⟩
    have hlt : j < ks.length := (List.getElem?_eq_some_iff.1 hj).1
    obtain ⟨b, off, e, hb, hc⟩ := hks (by omega)
    obtain ⟨c0, c1, c2, c3, c4, h0, h1, h2, h3, h4, ht⟩ := hc.at_ hj
    refine ⟨b, off, e, hb, ?_⟩
    cases q with
    | mk k' i' nm' ls' ks' =>
      have ht' := ht
      rw [TmV] at ht
      obtain ⟨AL', cl', AK', ck', hv, _⟩ := ht
      simp only [Value.agg.injEq, Array.mk.injEq, List.cons.injEq, and_true] at hv
      obtain ⟨rfl, rfl, rfl, rfl, rfl⟩ := hv
      exact ⟨k', i', nm', AL', _, cl', AK', ck', h0, h1, h2, h3, h4, ht'⟩

theorem szT_kids (t : Tm) : szT t = 1 + szL t.kids := by cases t; simp [szT, Tm.kids]

set_option maxRecDepth 100000 in
set_option maxHeartbeats 2000000 in
theorem rsize_any : ∀ (n : Nat) (t : Tm) (v : Value) (B : Nat) (w : World), szT t ≤ n → n ≤ 1000000000 → TmV w B t v → B ≤ w.heap.size →
    Calls Tryd.prog 20 #[v] w fun e w' => e = .returned (.int .i64 (szT t : Int)) ∧ Below w.heap.size w w' := by
  intro n
  induction n with
  | zero => intro t v B w h; have := szT_pos t; omega
  | succ n ih =>
    intro t v B w hsz hn hv hB
    have hk := szT_kids t
    obtain ⟨k, i, nm, AL, nl, cl, AK, ck, rfl, hlen, hkid⟩ := hv.open_
    have IH := Lib.hid ih
    have HK := Lib.hid hkid
    have HV := Lib.hid hv
    clear ih hkid hv
    generalize hks : t.kids = ks at *
    have HSZ := Lib.hid (And.intro hsz hk)
    clear hsz hk
    go_enter Tryd.func20, Tryd.ntmps20
    go_wp2_with fail
    go_loopw [3, 4] (fun v3 v4 wr => ∃ j : Nat, v3 = .int .i64 (1 + (szL (ks.take j) : Int)) ∧ v4 = .int .i64 (j : Int) ∧ j ≤ ks.length ∧ Below w.heap.size w wr ∧ w.heap.size < wr.heap.size ∧ wr.cell? ⟨w.heap.size, 4, none⟩ = some (.slice AK ks.length ck)) (fun _ v4 _ => ks.length - (intOf v4).toNat)
    case atStart => exact ⟨0, rfl, rfl, Nat.zero_le _, (Below.refl _ _).alloc (Nat.le_refl _) _, by simp, by go_simp⟩
    case round =>
      obtain ⟨j, rfl, rfl, hj, hb, hlt, hc⟩ := hrel
      by_cases hjl : j < ks.length
      · obtain ⟨b, off, rfl, hbB, k', i', nm', AL', nl', cl', AK', ck', h0, h1, h2, h3, h4, hq⟩ := HK.out j ks[j] (List.getElem?_eq_getElem hjl)
        have hbw : b < w.heap.size := by omega
        replace h0 := (hb.cell (p := ⟨b, off + j * 5, none⟩) hbw).trans h0
        replace h1 := (hb.cell (p := ⟨b, off + j * 5 + 1, none⟩) hbw).trans h1
        replace h2 := (hb.cell (p := ⟨b, off + j * 5 + 2, none⟩) hbw).trans h2
        replace h3 := (hb.cell (p := ⟨b, off + j * 5 + 3, none⟩) hbw).trans h3
        replace h4 := (hb.cell (p := ⟨b, off + j * 5 + 4, none⟩) hbw).trans h4
        have hst := szL_take (List.getElem?_eq_getElem hjl)
        have hle := szL_take_le ks (j + 1)
        have hpos := szT_pos ks[j]
        have hqs : szT ks[j] ≤ n := by have := HSZ.out; have := szL_mem (List.getElem_mem hjl); omega
        have hbig : (szL (ks.take j) : Int) + szT ks[j] ≤ 1000000000 := by have := HSZ.out; omega
        have HST := Lib.hid hst
        have HB := Lib.hid hb
        clear hst hle hb
        go_wp2_with fail
        refine (IH.out ks[j] _ B wr hqs (by omega) (hq.below HB.out hB) (by have := HB.out.size; omega)).mono ?_
        rintro e w2 ⟨rfl, hb2⟩
        have hc2 := (hb2.cell (p := ⟨w.heap.size, 4, none⟩) hlt).trans hc
        have hlt2 := Nat.lt_of_lt_of_le hlt hb2.size
        have HB2 := Lib.hid (HB.out.trans (hb2.mono HB.out.size))
        clear hb2 h0 h1 h2 h3 h4 hq
        go_wp2
        go_roundw
        case rel => exact ⟨j + 1, by rw [HST.out]; congr 1; omega, by congr 1, by omega, HB2.out, hlt2, hc2⟩
        case measure => simp [intOf]; omega
      · have he : ks.take j = ks := List.take_of_length_le (by omega)
        have hd2 : decide ((j : Int) < (ks.length : Int)) = false := by rw [decide_eq_false_iff_not]; omega
        go_wp2
        go_ret
        exact ⟨ret_int (by rw [he, HSZ.out.2]; omega), hb⟩
end Go.Proofs.YtbiifkpelldciaaDoor
