/- The law's Nodes. -/
import Derived.Test.YtbiifkpelldciaaDoorRsz
import Derived.IntWalk
namespace Go.Proofs.YtbiifkpelldciaaDoor
open Go.RowKit

mutual
/-- What Nodes counts below a node. -/
def ndT : Tm → Int → Int
  | .mk _ _ _ _ ks, most => ndL ks most 0
/-- What Nodes counts from n on. -/
def ndL : List Tm → Int → Int → Int
  | [], _, n => n
  | t :: r, most, n => if most < n then n else ndL r most (n + (1 + ndT t (most - n)))
end
theorem ndT_kids (t : Tm) (most : Int) : ndT t most = ndL t.kids most 0 := by cases t; rw [ndT]; rfl
mutual
theorem ndT_le : ∀ (t : Tm) (most : Int), 0 ≤ ndT t most ∧ ndT t most + 1 ≤ (szT t : Int)
  | .mk _ _ _ _ ks, most => by
    rw [ndT, szT]
    have := ndL_le ks most 0
    omega
theorem ndL_le : ∀ (ks : List Tm) (most n : Int), n ≤ ndL ks most n ∧ ndL ks most n ≤ n + (szL ks : Int)
  | [], most, n => by rw [ndL, szL]; omega
  | t :: r, most, n => by
    rw [ndL, szL]
    have h1 := ndT_le t (most - n)
    have h2 := ndL_le r most (n + (1 + ndT t (most - n)))
    split <;> omega
end
mutual
theorem ndT_small : ∀ (t : Tm) (most : Int), ndT t most ≤ most → ndT t most + 1 = (szT t : Int)
  | .mk _ _ _ _ ks, most, h => by
    rw [ndT] at h ⊢
    rw [szT]
    have := ndL_small ks most 0 h
    omega
theorem ndL_small : ∀ (ks : List Tm) (most n : Int), ndL ks most n ≤ most → ndL ks most n = n + (szL ks : Int)
  | [], most, n, _ => by rw [ndL, szL]; omega
  | t :: r, most, n, h => by
    rw [ndL] at h ⊢
    rw [szL]
    split at h
    · omega
    · rename_i hn
      rw [if_neg hn]
      have h1 := ndL_small r most _ h
      have h2 := ndT_small t (most - n) (by omega)
      omega
end
/-- The slice of terms at A reads as ks, one by one. -/
def KidsA (w : World) (B : Nat) (AK : Option Addr) (ks : List Tm) : Prop := ∀ j q, ks[j]? = some q → ∃ b off, AK = some ⟨b, off, none⟩ ∧ b < B ∧ ∃ k' i' nm' AL' nl' cl' AK' ck', w.cell? ⟨b, off + j * 5, none⟩ = some (.int .i64 k') ∧ w.cell? ⟨b, off + j * 5 + 1, none⟩ = some (.int .i64 i') ∧ w.cell? ⟨b, off + j * 5 + 2, none⟩ = some (.string nm') ∧ w.cell? ⟨b, off + j * 5 + 3, none⟩ = some (.slice AL' nl' cl') ∧ w.cell? ⟨b, off + j * 5 + 4, none⟩ = some (.slice AK' q.kids.length ck') ∧ TmV w B q (.agg #[.int .i64 k', .int .i64 i', .string nm', .slice AL' nl' cl', .slice AK' q.kids.length ck'])
theorem TmV.kidsA {w : World} {B : Nat} {t : Tm} {k i : Int} {nm : ByteArray} {AL : Option Addr} {nl cl n : Nat} {AK : Option Addr} {ck : Nat} (h : TmV w B t (.agg #[.int .i64 k, .int .i64 i, .string nm, .slice AL nl cl, .slice AK n ck])) : KidsA w B AK t.kids ∧ t.kids.length ≤ 1759218604441 := by
  obtain ⟨k2, i2, nm2, AL2, nl2, cl2, AK2, ck2, hv, hl, hk⟩ := h.open_
  simp only [Value.agg.injEq, Array.mk.injEq, List.cons.injEq, Value.slice.injEq, and_true] at hv
  obtain ⟨_, _, _, _, rfl, _, _⟩ := hv
  exact ⟨hk, hl⟩
theorem KidsA.below {w w' : World} {B B' : Nat} {AK : Option Addr} {ks : List Tm} (h : KidsA w B AK ks) (hb : Below B' w w') (hB : B ≤ B') : KidsA w' B AK ks := fun j q hq => by
  obtain ⟨b, off, e, hbB, k2, i2, nm2, AL2, nl2, cl2, AK2, ck2, g0, g1, g2, g3, g4, gq⟩ := h j q hq
  have hcl : ∀ o : Nat, w'.cell? ⟨b, o, none⟩ = w.cell? ⟨b, o, none⟩ := fun o => hb.cell (p := ⟨b, o, none⟩) (by show b < B'; omega)
  exact ⟨b, off, e, hbB, k2, i2, nm2, AL2, nl2, cl2, AK2, ck2, (hcl _).trans g0, (hcl _).trans g1, (hcl _).trans g2, (hcl _).trans g3, (hcl _).trans g4, gq.below hb hB⟩
theorem KidsA.alloc {w : World} {B : Nat} {AK : Option Addr} {ks : List Tm} (h : KidsA w B AK ks) (hB : B ≤ w.heap.size) (o : Obj) : KidsA (w.alloc o) B AK ks := h.below ((Below.refl w.heap.size w).alloc (Nat.le_refl _) o) hB

set_option maxRecDepth 100000 in
set_option maxHeartbeats 2000000 in
theorem nodes_any : ∀ (N : Nat) (ks : List Tm) (most : Int) (AK : Option Addr) (ck : Nat) (B : Nat) (w : World), szL ks < N → ks.length ≤ 1759218604441 → KidsA w B AK ks → B ≤ w.heap.size →
    Calls Tryd.prog 37 #[.int .i64 most, .slice AK ks.length ck] w fun e w' => ∃ m : Int, e = .returned (.int .i64 m) ∧ Below w.heap.size w w' ∧ (szL ks ≤ 1000000000000000 → 0 ≤ most → most ≤ 200 → m = ndL ks most 0) := by
  intro N
  induction N with
  | zero => intro ks most AK ck B w hN; omega
  | succ n ih =>
    intro ks most AK ck B w hN hlen hK hB
    have IH := Lib.hid ih
    have HK := Lib.hid hK
    have HN := Lib.hid hN
    clear ih hK hN
    go_enter Tryd.func37, Tryd.ntmps37
    go_wp2_with fail
    go_loopw [5, 10] (fun v5 v10 wr => ∃ (j : Nat) (nn : Int), v5 = .int .i64 nn ∧ v10 = .int .i64 (j : Int) ∧ j ≤ ks.length ∧ Below w.heap.size w wr ∧ Hid (szL ks ≤ 1000000000000000 → 0 ≤ most → most ≤ 200 → ndL (ks.drop j) most nn = ndL ks most 0 ∧ 0 ≤ nn)) (fun _ v10 _ => ks.length - (intOf v10).toNat)
    case atStart => exact ⟨0, 0, rfl, rfl, Nat.zero_le _, Below.refl _ _, Lib.hid fun _ _ _ => ⟨rfl, by omega⟩⟩
    case round =>
      obtain ⟨j, nn, rfl, rfl, hj, hb, hx⟩ := hrel
      by_cases hjl : j < ks.length
      · obtain ⟨b, off, rfl, hbB, k', i', nm', AL', nl', cl', AK', ck', h0, h1, h2, h3, h4, hq⟩ := HK.out j ks[j] (List.getElem?_eq_getElem hjl)
        have hbw : b < w.heap.size := by omega
        replace h0 := (hb.cell (p := ⟨b, off + j * 5, none⟩) hbw).trans h0
        replace h1 := (hb.cell (p := ⟨b, off + j * 5 + 1, none⟩) hbw).trans h1
        replace h2 := (hb.cell (p := ⟨b, off + j * 5 + 2, none⟩) hbw).trans h2
        replace h3 := (hb.cell (p := ⟨b, off + j * 5 + 3, none⟩) hbw).trans h3
        replace h4 := (hb.cell (p := ⟨b, off + j * 5 + 4, none⟩) hbw).trans h4
        have hdr : ks.drop j = ks[j] :: ks.drop (j + 1) := List.drop_eq_getElem_cons hjl
        have HD := Lib.hid hdr
        clear hdr
        cases hg : decide (most < nn) with
        | true =>
          have hgp := of_decide_eq_true hg
          have HE := Lib.hid (show szL ks ≤ 1000000000000000 → 0 ≤ most → most ≤ 200 → nn = ndL ks most 0 from fun a1 a2 a3 => by
            obtain ⟨e1, _⟩ := hx.out a1 a2 a3
            rw [← e1, HD.out, ndL, if_pos hgp])
          clear hgp
          go_wp2_with fail
          exact bodyPost_ret (v := .int .i64 nn) (by simp [results, Tryd.results37, go_sem]) rfl ⟨nn, rfl, hb.alloc hb.size _, HE.out⟩
        | false =>
          have hgp := of_decide_eq_false hg
          have hle := szL_mem (List.getElem_mem hjl)
          have hsz := szT_kids ks[j]
          have hks : szL ks[j].kids < n := by have := HN.out; omega
          have hkl : szL ks[j].kids ≤ szL ks := by omega
          have HKL := Lib.hid (And.intro hkl hgp)
          obtain ⟨hka, hkn⟩ := (hq.below hb hB).kidsA
          have hwr : B ≤ wr.heap.size := Nat.le_trans hB hb.size
          have HKA := Lib.hid hka
          clear hka hle hsz hkl hgp hq
          go_wp2_with fail
          refine (IH.out ks[j].kids _ AK' ck' B _ hks hkn (HKA.out.alloc hwr _) (by simp; omega)).mono ?_
          rintro e w2 ⟨m, rfl, hb2, hm⟩
          have HB2 := Lib.hid ((hb.alloc hb.size _).trans (hb2.mono (by have := hb.size; simp; omega)))
          have HM := Lib.hid hm
          clear hb2 hm h0 h1 h2 h3 h4 hb
          go_wp2
          go_roundw
          case rel =>
            refine ⟨j + 1, _, rfl, by congr 1, by omega, HB2.out, Lib.hid fun a1 a2 a3 => ?_⟩
            obtain ⟨e1, e2⟩ := hx.out a1 a2 a3
            obtain ⟨k1, k2⟩ := HKL.out
            have w1 : wrap64 (most - nn) = most - nn := IntWalk.wrap64_in _ (by omega)
            have hm := HM.out (by omega)
            rw [w1] at hm
            have hm := hm (by omega) (by omega)
            rw [← ndT_kids] at hm
            have b1 := ndT_le ks[j] (most - nn)
            have b2 := ndL_le ks most 0
            rw [HD.out, ndL, if_neg (by omega)] at e1
            have b3 := ndL_le (ks.drop (j + 1)) most (nn + (1 + ndT ks[j] (most - nn)))
            have w2 : wrap64 (1 + m) = 1 + m := IntWalk.wrap64_in _ (by omega)
            have w3 : wrap64 (nn + (1 + m)) = nn + (1 + m) := IntWalk.wrap64_in _ (by omega)
            rw [w2, w3, hm]
            exact ⟨e1, by omega⟩
          case measure => simp [intOf]; omega
      · have he : ks.drop j = [] := List.drop_eq_nil_of_le (by omega)
        have hd2 : decide ((j : Int) < (ks.length : Int)) = false := by rw [decide_eq_false_iff_not]; omega
        have HE := Lib.hid (show szL ks ≤ 1000000000000000 → 0 ≤ most → most ≤ 200 → nn = ndL ks most 0 from fun a1 a2 a3 => by
          obtain ⟨e1, _⟩ := hx.out a1 a2 a3
          rw [← e1, he, ndL])
        go_wp2
        exact bodyPost_ret (v := .int .i64 nn) (by simp [results, Tryd.results37, go_sem]) rfl ⟨nn, rfl, hb, HE.out⟩
end Go.Proofs.YtbiifkpelldciaaDoor
