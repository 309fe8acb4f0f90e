/- The reference's Parse. -/
import Derived.Test.YtipnabbdhmapkaaGreatDoorRpp
import Derived.Test.YtipnabbdhmapkaaGreatDoorRsu
import Derived.IntWalk
import Derived.Test.YtipnabbdhmapkaaGreatDoorAwk
namespace Go.Proofs.YtipnabbdhmapkaaGreatDoor
open Go.RowKit

/-! The reference's Parse. -/

/-- Where Parse stands: the reader b, the level X, the result's cell. -/
structure LX (w W : World) (b X : Nat) (s : ByteArray) (k : Nat) (bad : Bool) (err C : Int) (A : Option Addr) (cap : Nat) (M : List (Int × Int)) : Prop where
  rd : Rr W b s k bad err
  blw : Below w.heap.size w W
  rb : w.heap.size < b
  bx : b < X
  xs : W.heap[X]? = some (.cells #[.int .i64 C, .slice A M.length cap] 24 (0, 0))
  va : VA W W.heap.size A M
  fr : ∀ c off, 0 < M.length → A = some ⟨c, off, none⟩ → b < c
  res : W.heap[w.heap.size]? = some (.cells #[.int .i64 0, .slice none 0 0] 24 (0, 0))
namespace LX
variable {w W W' : World} {b X : Nat} {s : ByteArray} {k : Nat} {bad : Bool} {err C : Int} {A : Option Addr} {cap : Nat} {M : List (Int × Int)}
theorem xlt (h : LX w W b X s k bad err C A cap M) : X < W.heap.size := (Array.getElem?_eq_some_iff.1 h.xs).1
theorem rlt (h : LX w W b X s k bad err C A cap M) : w.heap.size < W.heap.size := (Array.getElem?_eq_some_iff.1 h.res).1
theorem call (h : LX w W b X s k bad err C A cap M) {k' : Nat} {bad' : Bool} {err' : Int} (hr : Rr W' b s k' bad' err') (hg : W.grownBy W' (some b)) : LX w W' b X s k' bad' err' C A cap M :=
  have h1 := h.rb
  have h2 := h.bx
  ⟨hr, ⟨hg.os.trans h.blw.os, hg.tape.trans h.blw.tape, hg.output.trans h.blw.output, Nat.le_trans h.blw.size hg.size, fun i hi => (hg.block i (Nat.lt_of_lt_of_le hi h.blw.size) (by simp; omega)).trans (h.blw.block i hi)⟩, h.rb, h.bx,
    (hg.block X h.xlt (by simp; omega)).trans h.xs, (VA.grown_b h.va (fun c off h0 e => by have := h.fr c off h0 e; omega) hg).more hg.size, h.fr, (hg.block _ h.rlt (by simp; omega)).trans h.res⟩
theorem callB (h : LX w W b X s k bad err C A cap M) (hb : Below W.heap.size W W') : LX w W' b X s k bad err C A cap M :=
  h.call (h.rd.below hb) ⟨hb.os, hb.tape, hb.output, hb.size, fun i hi _ => hb.block i hi⟩
theorem drewN (h : LX w W b X s k bad err C A cap M) (n : Nat) : LX w (W.drewN n) b X s k bad err C A cap M := h.callB ⟨rfl, rfl, rfl, Nat.le_refl _, fun _ _ => rfl⟩
theorem drew (h : LX w W b X s k bad err C A cap M) : LX w W.drew b X s k bad err C A cap M := h.callB ⟨rfl, rfl, rfl, Nat.le_refl _, fun _ _ => rfl⟩
theorem setK (h : LX w W b X s k bad err C A cap M) (n : Nat) : LX w (W.setCell ⟨b, 1, none⟩ (.int .i64 (n : Int))) b X s n bad err C A cap M := h.call (h.rd.setK n) (grown_set (grown_refl _ _) _ _)
theorem setB (h : LX w W b X s k bad err C A cap M) (c : Bool) : LX w (W.setCell ⟨b, 2, none⟩ (.bool c)) b X s k c err C A cap M := h.call (h.rd.setB c) (grown_set (grown_refl _ _) _ _)
theorem setX (h : LX w W b X s k bad err C A cap M) {c2 : Int} {A2 : Option Addr} {cap2 : Nat} {M2 : List (Int × Int)} (hv : VA W W.heap.size A2 M2) (hf : ∀ c off, 0 < M2.length → A2 = some ⟨c, off, none⟩ → b < c) :
    LX w ((W.setCell ⟨X, 0, none⟩ (.int .i64 c2)).setCell ⟨X, 1, none⟩ (.slice A2 M2.length cap2)) b X s k bad err c2 A2 cap2 M2 :=
  have h1 := h.rb
  have h2 := h.bx
  have hne1 : b ≠ X := by omega
  have hne2 : w.heap.size ≠ X := by omega
  ⟨(Below.heap_setCell _ ⟨X, 1, none⟩ _ b hne1).trans ((Below.heap_setCell W ⟨X, 0, none⟩ _ b hne1).trans h.rd), (h.blw.setCell (by show w.heap.size ≤ X; omega) _).setCell (by show w.heap.size ≤ X; omega) _, h.rb, h.bx,
    lv_set2 h.xs, hv.set2 h.xs _ _, hf, (Below.heap_setCell _ ⟨X, 1, none⟩ _ _ hne2).trans ((Below.heap_setCell W ⟨X, 0, none⟩ _ _ hne2).trans h.res)⟩
theorem start {w w1 : World} {s : ByteArray} {k : Nat} (hr : Rr w1 (w.heap.size + 1) s k false 0) (hg : ((w.alloc (.cells #[.int .i64 0, .slice none 0 0] 24)).alloc (.cells #[.string s, .int .i64 0, .bool false, .int .i64 0] 111)).grownBy w1 (some (w.heap.size + 1))) :
    LX w (w1.alloc (.cells #[.int .i64 0, .slice none 0 0] 24)) (w.heap.size + 1) w1.heap.size s k false 0 0 none 0 [] :=
  have hsz := hg.size
  have h2 : w.heap.size + 2 ≤ w1.heap.size := by simpa using hsz
  have hw : Below w.heap.size w w1 := ⟨hg.os, hg.tape, hg.output, by omega, fun i hi => (hg.block i (by simp; omega) (by simp; omega)).trans ((((Below.refl w.heap.size w).alloc (Nat.le_refl _) _).alloc (by simp) _).block i hi)⟩
  ⟨hr.alloc _, hw.alloc (by omega) _, by omega, by omega, PSt.alloc_last _ _ _ rfl, VA.nil, fun _ _ h => absurd h (by simp),
    (Below.heap_alloc _ _ _ (by omega)).trans ((hg.block w.heap.size (by simp; omega) (by simp)).trans ((Below.heap_alloc _ _ _ (by simp)).trans (PSt.alloc_last _ _ _ rfl)))⟩
end LX

theorem ext3_list (s : ByteArray) (K : Nat) : (s.extract K (K + 3)).data.toList = (s.data.toList.drop K).take 3 := by
  have h1 : (s.extract K (K + 3)).data.toList = List.take (K + 3 - K) (List.drop K s.data.toList) := by simp
  rw [h1, show K + 3 - K = 3 by omega]
theorem bytes_ext {a b : ByteArray} (h : a.data.toList = b.data.toList) : a = b := by
  cases a with | mk a => cases b with | mk b => exact congrArg ByteArray.mk (Array.toList_inj.1 h)
theorem max_ext {s : ByteArray} {K : Nat} (h : Lib.hasPrefix (s.data.toList.drop K) mxS.data.toList = true) : s.extract K (K + 3) = mxS := by
  apply bytes_ext
  rw [ext3_list]
  unfold Lib.hasPrefix at h
  obtain ⟨r, hr⟩ := List.isPrefixOf_iff_prefix.1 h
  rw [← hr]
  rfl
theorem max_ext_no {s : ByteArray} {K : Nat} (h : Lib.hasPrefix (s.data.toList.drop K) mxS.data.toList = false) : s.extract K (K + 3) ≠ mxS := by
  intro e
  have h2 := ext3_list s K
  rw [e] at h2
  have : Lib.hasPrefix (s.data.toList.drop K) mxS.data.toList = true := by
    unfold Lib.hasPrefix
    apply List.isPrefixOf_iff_prefix.2
    rw [h2]
    exact List.take_prefix _ _
  rw [this] at h
  cases h

theorem ba_loop (a : ByteArray) : ∀ (n i : Nat) (r : List UInt8), a.size - i = n → ByteArray.toList.loop a i r = r.reverse ++ a.data.toList.drop i := by
  intro n
  induction n with
  | zero =>
    intro i r h
    rw [ByteArray.toList.loop, if_neg (by omega), List.drop_eq_nil_of_le (by simp; omega), List.append_nil]
  | succ n ih =>
    intro i r h
    have hi : i < a.size := by omega
    have hl : i < a.data.toList.length := by simpa using hi
    rw [ByteArray.toList.loop, if_pos hi, ih (i + 1) _ (by omega), List.drop_eq_getElem_cons hl]
    have hg : a.get! i = a.data.toList[i] := by
      show a.data[i]! = _
      have hd : i < a.data.size := hi
      rw [getElem!_pos a.data i hd]; simp
    rw [hg]
    simp
theorem ba_list (a : ByteArray) : a.toList = a.data.toList := by
  show ByteArray.toList.loop a 0 [] = _
  rw [ba_loop a a.size 0 [] rfl]
  simp
/-- The first part behind max( , whether or not the bracket stands. -/
theorem LS.enter {s : ByteArray} {J : Nat} (hJ : J ≤ s.size) (hm : signB s 0 mxS = true) {K1 : Nat} (hK1 : K1 = spEnd s (spEnd s 0 + 3)) (hJ1 : J = tkEnd s K1 40) {bad2 : Bool} {k2 : Nat} {c2 : Int} {v2 : List (Int × Int)} {err2 : Int} (hp : PT s J (!tkB s K1 40) 0 bad2 k2 c2 v2 err2) (hc : 0 ≤ c2) (hv : v2.length ≤ 1) : LS s k2 bad2 err2 c2 v2 := by
  subst hK1
  cases ht : tkB s (spEnd s (spEnd s 0 + 3)) 40 with
  | true =>
    rw [ht] at hp
    rw [tkEnd_yes ht] at hJ1
    subst hJ1
    exact LS.first hJ (with_bracket hm ht) hp hc hv
  | false =>
    rw [ht] at hp
    exact ⟨hc, .inl ⟨by have := hp.bd; simpa using this, no_bracket hm ht⟩⟩
theorem FS.out {s : ByteArray} {k : Nat} {bad : Bool} {err C : Int} {M : List (Int × Int)} (h : FS s k bad err C M) (hk : k ≤ s.size) (hs : s.size ≤ 65536) :
    (bad = true ∧ prsL s = (0, []) ∧ prsE s = 4) ∨ (bad = false ∧ k < s.size ∧ prsL s = (0, []) ∧ prsE s = 4) ∨ (bad = false ∧ k = s.size ∧ err ≠ 0 ∧ prsL s = (0, []) ∧ prsE s = err) ∨ (bad = false ∧ k = s.size ∧ err = 0 ∧ prsL s = (C, M) ∧ prsE s = 0) := by
  have hlong : ¬ 65536 < s.size := by omega
  rcases h with ⟨h1, h2⟩ | ⟨h1, ps, rfl, rfl, rfl, h2⟩
  · exact .inl ⟨h1, by simp [prsL, hlong, h2], by simp [prsE, hlong, h2]⟩
  · by_cases he : k = s.size
    · rw [if_pos he] at h2
      by_cases h0 : firstE ps = 0
      · exact .inr (.inr (.inr ⟨h1, he, h0, by simp [prsL, hlong, h2, h0], by simp [prsE, hlong, h2, h0]⟩))
      · exact .inr (.inr (.inl ⟨h1, he, h0, by simp [prsL, hlong, h2, h0], by simp [prsE, hlong, h2]⟩))
    · rw [if_neg he] at h2
      exact .inr (.inl ⟨h1, by omega, by simp [prsL, hlong, h2], by simp [prsE, hlong, h2]⟩)
theorem first_below {w W : World} (h : Below w.heap.size w W) (u0 u1 : Value) : Below w.heap.size w ((W.setCell ⟨w.heap.size, 0, none⟩ u0).setCell ⟨w.heap.size, 1, none⟩ u1) := (h.setCell (Nat.le_refl _) _).setCell (Nat.le_refl _) _
/-- Whether the reader in block b has met a wrong form. -/
def badOf (w : World) (b : Nat) : Bool := match w.cell? ⟨b, 2, none⟩ with | some (.bool x) => x | _ => false
theorem badOf_rr {w : World} {b k : Nat} {s : ByteArray} {bad : Bool} {err : Int} (h : Rr w b s k bad err) : badOf w b = bad := by unfold badOf; rw [h.bd]
def stepsOf (w : World) (b n : Nat) : Nat := if badOf w b = true then 0 else n + 1 - atOf w b
theorem steps_bad {w : World} {b k n : Nat} {s : ByteArray} {err : Int} (h : Rr w b s k true err) : stepsOf w b n = 0 := by unfold stepsOf; rw [badOf_rr h, if_pos rfl]
theorem steps_good {w : World} {b k n : Nat} {s : ByteArray} {err : Int} (h : Rr w b s k false err) : stepsOf w b n = n + 1 - k := by unfold stepsOf; rw [badOf_rr h, if_neg (by decide), atOf_rr h]
theorem steps_lt {W : World} {b k k2 n : Nat} {s : ByteArray} {bad : Bool} {err : Int} (h : Rr W b s k2 bad err) (h2 : bad = false → k < k2) (hk : k ≤ n) : stepsOf W b n < n + 1 - k := by
  cases bad with
  | true => rw [steps_bad h]; omega
  | false => have := h2 rfl; rw [steps_good h]; omega

set_option maxRecDepth 100000 in
set_option maxHeartbeats 4000000 in
theorem rparse_any (s : ByteArray) (w : World) (hs63 : s.size ≤ 140737488355328) : Calls Tryz.prog 43 #[.string s] w (GivesLv (prsL s).1 (prsL s).2 (prsE s) w) := by
  by_cases hlong : 65536 < s.size
  · have e1 : prsL s = (0, []) := by simp [prsL, hlong]
    have e2 : prsE s = 5 := by simp [prsE, hlong]
    rw [e1, e2]
    go_enter Tryz.func43, Tryz.ntmps43
    go_wp2_with fail
    exact bodyPost_ret (v := .tuple #[.agg #[.int .i64 0, .slice none 0 0], .int .i64 5]) (by simp [results, Tryz.results43, go_sem]) rfl (gives_zero ((Below.refl _ _).alloc (Nat.le_refl _) _))
  · have hs : s.size ≤ 65536 := by omega
    have hd : decide (65536 < (s.size : Int)) = false := by simp; omega
    go_enter Tryz.func43, Tryz.ntmps43
    go_wp2_with fail
    have hR0 : Rr ((w.alloc (.cells #[.int .i64 0, .slice none 0 0] 24)).alloc (.cells #[.string s, .int .i64 0, .bool false, .int .i64 0] 111)) (w.heap.size + 1) s 0 false 0 := PSt.alloc_last _ _ _ (by simp)
    refine (rspaces_any (w.heap.size + 1) s 0 false 0 _ hR0 (Nat.zero_le _) hs).mono ?_
    rintro e w1 ⟨rfl, hr1, hg1⟩
    have HX := Lib.hid (LX.start hr1 hg1)
    have hK : spEnd s 0 ≤ s.size := spEnd_le (Nat.zero_le _)
    have hbs : w.heap.size + 1 < w1.heap.size := hr1.lt
    clear hr1 hg1 hR0
    cases hmx : signB s 0 mxS with
    | true =>
      have h3 : spEnd s 0 + 3 ≤ s.size := by
        have := hasPrefix_le (show Lib.hasPrefix (s.data.toList.drop (spEnd s 0)) mxS.data.toList = true from hmx)
        have h3 : (s.data.toList.drop (spEnd s 0)).length = s.size - spEnd s 0 := by simp
        have h4 : mxS.data.toList.length = 3 := rfl
        omega
      have HM := Lib.hid hmx
      have hxe := max_ext (show Lib.hasPrefix (s.data.toList.drop (spEnd s 0)) mxS.data.toList = true from hmx)
      clear hmx
      generalize hK0 : spEnd s 0 = K0 at *
      have hw3 : IntKind.i64.wrap ((K0 : Int) + 3) = (K0 : Int) + 3 := IntWalk.i64_in _ (by omega)
      have hg3 : decide ((K0 : Int) + 3 ≤ (s.size : Int)) = true := by rw [decide_eq_true_eq]; omega
      have hp3 : (0 : Int) ≤ (K0 : Int) + 3 := by omega
      have ht3 : ((K0 : Int) + 3).toNat = K0 + 3 := by omega
      have x0 := HX.out.rd.text
      have x1 := HX.out.rd.at_
      go_wp2_with fail
      go_quiet (fail)
      have HX2 := Lib.hid (HX.out.drewN nq)
      clear HX x0 x1 hw3 hg3 hp3 ht3 hxe
      generalize (w1.alloc (.cells #[.int .i64 0, .slice none 0 0] 24)).drewN nq = W2 at *
      generalize w.heap.size + 1 = b at *
      generalize w1.heap.size = X at *
      have x0 := HX2.out.rd.text
      have x1 := HX2.out.rd.at_
      have xf := HX2.out.rd.fr
      have HX3 := Lib.hid (HX2.out.setK (K0 + 3))
      have hK3 : spEnd s (K0 + 3) ≤ s.size := spEnd_le h3
      go_wp2_with fail
      refine (rspaces_any b s (K0 + 3) false 0 _ (by simpa using HX3.out.rd) h3 hs).mono ?_
      rintro e w3 ⟨rfl, hr3, hg3⟩
      have HX4 := Lib.hid ((show LX w _ b X s (K0 + 3) false 0 0 none 0 [] by simpa using HX3.out).call hr3 hg3)
      clear HX3 HX2 x0 x1 xf hr3 hg3
      generalize hK1 : spEnd s (K0 + 3) = K1 at *
      go_wp2_with fail
      refine (take_any b s K1 false 0 40 40 rfl _ HX4.out.rd hK3 hs).mono ?_
      rintro e w4 ⟨rfl, hr4, hg4⟩
      have HX5 := Lib.hid ((HX4.out.call hr4 hg4).setB (!tkB s K1 40))
      have x2 := hr4.bd
      have xf := hr4.fr
      have hJ : tkEnd s K1 40 ≤ s.size := by
        unfold tkEnd
        split
        · rename_i h; exact tkB_lt h
        · exact hK3
      clear hr4 hg4 HX4
      go_wp2_with fail
      refine (rpart_any b s (tkEnd s K1 40) (!tkB s K1 40) 0 _ HX5.out.rd hJ hs).mono ?_
      rintro e w5 ⟨A5, c5, v5, cap5, k5, bad5, err5, rfl, hva5, hfr5, hc5, hl5, hrr5, hg5, hk5, hpt5⟩
      have HX6 := Lib.hid (HX5.out.call hrr5 hg5)
      have hx0 := lv_c0 HX6.out.xs
      have hx1 := lv_c1 HX6.out.xs
      have hxf := lv_fr HX6.out.xs
      have HX7 := Lib.hid (HX6.out.setX (c2 := c5) (cap2 := cap5) hva5 (fun c off h0 e => by have := hfr5 c off h0 e; have := HX5.out.rd.lt; omega))
      have HS7 := Lib.hid (LS.enter hJ HM.out (by rw [hK0, hK1]) rfl hpt5 hc5 hl5)
      clear HX5 HX6 hva5 hfr5 hc5 hl5 hrr5 hg5 hpt5 x2 xf HM hJ hK3 h3 hK
      go_wp2_with fail
      go_loopw [] (fun wr => ∃ (k : Nat) (bad : Bool) (err C : Int) (A : Option Addr) (cap : Nat) (M : List (Int × Int)), k ≤ s.size ∧ Hid (LX w wr b X s k bad err C A cap M) ∧ Hid (LS s k bad err C M)) (fun wr => stepsOf wr b s.size)
      case atStart => exact ⟨k5, bad5, err5, c5, A5, cap5, v5, hk5, Lib.hid (by simpa using HX7.out), HS7⟩
      case round =>
        obtain ⟨k, bad, err, C, A, cap, M, hk, HL, HS⟩ := hrel
        clear HX7 HS7 hx0 hx1 hxf hk5
        have q0 := HL.out.rd.text
        have q1 := HL.out.rd.at_
        have q2 := HL.out.rd.bd
        have q3 := HL.out.rd.er
        have qf := HL.out.rd.fr
        cases bad with
        | true =>
          have HB := Lib.hid (HL.out.setB true)
          have HFS := Lib.hid (show FS s (spEnd s k) true err C M from .inl ⟨rfl, HS.out.bad⟩)
          have hkf : spEnd s k ≤ s.size := spEnd_le hk
          go_wp2_with fail
          refine (rspaces_any b s k true err _ (by simpa using HB.out.rd) hk hs).mono ?_
          rintro e w8 ⟨rfl, hr8, hg8⟩
          have HB := Lib.hid ((show LX w _ b X s k true err C A cap M by simpa using HB.out).call hr8 hg8)
          clear hr8 hg8 q0 q1 q2 q3 qf
          generalize spEnd s k = kf at *
          have hbt : Hid (prsL s = (0, []) ∧ prsE s = 4) := by
            rcases HFS.out.out hkf hs with ⟨_, h⟩ | ⟨h, _⟩ | ⟨h, _⟩ | ⟨h, _⟩
            · exact Lib.hid h
            · cases h
            · cases h
            · cases h
          have HE1 := Lib.hid hbt.out.1
          have HE2 := Lib.hid hbt.out.2
          clear hbt HFS
          have hrl := HB.out.rlt
          have r0 := lv_c0 HB.out.res
          have r1 := lv_c1 HB.out.res
          have rf := lv_fr HB.out.res
          have q0 := HB.out.rd.text
          have q1 := HB.out.rd.at_
          have q2 := HB.out.rd.bd
          have q3 := HB.out.rd.er
          have qf := HB.out.rd.fr
          go_wp2_with fail
          exact bodyPost_ret (v := .tuple #[.agg #[.int .i64 0, .slice none 0 0], .int .i64 4]) (by simp [results, Tryz.results43, go_sem, r0, r1]) rfl (by rw [HE1.out, HE2.out]; first | exact gives_zero (first_below HB.out.blw _ _) | exact gives_zero HB.out.blw)
        | false =>
          go_wp2_with fail
          refine (take_any b s k false err 44 44 rfl _ HL.out.rd hk hs).mono ?_
          rintro e w6 ⟨rfl, hr6, hg6⟩
          cases ht : tkB s k 44 with
          | true =>
            rw [tkEnd_yes ht] at hr6
            have HB := Lib.hid (HL.out.call hr6 hg6)
            have hk1 : k + 1 ≤ s.size := tkB_lt ht
            replace ht := Lib.hid ht
            clear hr6 hg6 q0 q1 q2 q3 qf
            have hx0 := lv_c0 HB.out.xs
            have hx1 := lv_c1 HB.out.xs
            have hxf := lv_fr HB.out.xs
            go_wp2_with fail
            have HB := Lib.hid HB.out.drew
            have HC := Lib.hid HS.out.1
            have HMb := Lib.hid (HS.out.big hk hs)
            go_region_with (first
              | (go_at_call 77; refine (rpart_any b s (k + 1) false err _ HB.out.rd hk1 hs).mono ?_; rintro e w7 ⟨A2, c2, v2, cap2, k2, bad2, err2, rfl, hva2, hfr2, hc2, hl2, hrr2, hg2, hk2, hpt2⟩; have HST := Lib.hid (HS.out.step ht.out hpt2 hc2 hl2); have HB := Lib.hid (HB.out.call hrr2 hg2); have HV2 := Lib.hid (And.intro hva2 (And.intro hc2 hl2)); have hy0 := lv_c0 HB.out.xs; have hy1 := lv_c1 HB.out.xs; clear hva2 hfr2 hc2 hl2 hrr2 hg2 hpt2)
              | (go_at_call 54; refine (rjoin_any C A cap M c2 A2 cap2 v2 _ _ HB.out.va HV2.out.1 (Nat.le_refl _) HMb.out (Nat.le_trans HV2.out.2.2 (by decide)) HC.out HV2.out.2.1 (mxI C c2) rfl).mono ?_; rintro e w8 ⟨A3, cap3, rfl, hva3, hb3, hfr3⟩; have HF3 := Lib.hid (And.intro hva3 (fun c off h0 e0 => Nat.lt_of_lt_of_le HB.out.rd.lt (hfr3 c off h0 e0))); have HB := Lib.hid (HB.out.callB hb3); have hz0 := lv_c0 HB.out.xs; have hz1 := lv_c1 HB.out.xs; have hzf := lv_fr HB.out.xs; clear hva3 hb3 hfr3))
            all_goals
              go_wp2
              go_roundw
              case rel => exact ⟨k2, bad2, err2, canonC (mxI C c2) (mg M v2), A3, cap3, mg M v2, hk2, Lib.hid (by simpa using HB.out.setX (cap2 := cap3) HF3.out.1 HF3.out.2), Lib.hid HST.out.1⟩
              case measure => rw [steps_good HL.out.rd]; exact steps_lt (by simpa using (HB.out.setX (cap2 := cap3) HF3.out.1 HF3.out.2).rd) HST.out.2 hk
          | false =>
            rw [tkEnd_no ht] at hr6
            have HB := Lib.hid (HL.out.call hr6 hg6)
            replace ht := Lib.hid ht
            clear hr6 hg6 q0 q1 q2 q3 qf
            have q2 := HB.out.rd.bd
            have qf := HB.out.rd.fr
            go_wp2_with fail
            refine (take_any b s k false err 41 41 rfl _ HB.out.rd hk hs).mono ?_
            rintro e w7 ⟨rfl, hr7, hg7⟩
            clear q2 qf
            cases hc : tkB s k 41 with
            | true =>
              rw [tkEnd_yes hc] at hr7
              have HB := Lib.hid ((HB.out.call hr7 hg7).setB false)
              have q2 := hr7.bd
              have qf := hr7.fr
              have hk1 : k + 1 ≤ s.size := tkB_lt hc
              have HFS := Lib.hid (HS.out.close hc)
              have hkf : spEnd s (k + 1) ≤ s.size := spEnd_le hk1
              replace hc := Lib.hid hc
              clear hr7 hg7
              go_wp2_with fail
              refine (rspaces_any b s (k + 1) false err _ (by simpa using HB.out.rd) hk1 hs).mono ?_
              rintro e w8 ⟨rfl, hr8, hg8⟩
              have HB := Lib.hid ((show LX w _ b X s (k + 1) false err C A cap M by simpa using HB.out).call hr8 hg8)
              clear hr8 hg8 q2 qf
              generalize spEnd s (k + 1) = kf at *
              have hrl := HB.out.rlt
              have r0 := lv_c0 HB.out.res
              have r1 := lv_c1 HB.out.res
              have rf := lv_fr HB.out.res
              have q0 := HB.out.rd.text
              have q1 := HB.out.rd.at_
              have q2 := HB.out.rd.bd
              have q3 := HB.out.rd.er
              have qf := HB.out.rd.fr
              rcases HFS.out.out hkf hs with ⟨h0, _⟩ | ⟨_, hlt, e1, e2⟩ | ⟨_, heq, hne, e1, e2⟩ | ⟨_, heq, he0, e1, e2⟩
              · cases h0
              · have HE1 := Lib.hid e1
                have HE2 := Lib.hid e2
                clear e1 e2 HFS
                have hd2 : decide ((kf : Int) < (s.size : Int)) = true := by rw [decide_eq_true_eq]; omega
                go_wp2_with fail
                exact bodyPost_ret (v := .tuple #[.agg #[.int .i64 0, .slice none 0 0], .int .i64 4]) (by simp [results, Tryz.results43, go_sem, r0, r1]) rfl (by rw [HE1.out, HE2.out]; first | exact gives_zero (first_below HB.out.blw _ _) | exact gives_zero HB.out.blw)
              · have HE1 := Lib.hid e1
                have HE2 := Lib.hid e2
                clear e1 e2 HFS
                have hlt : ¬ kf < s.size := by omega
                have hd2 : decide ((kf : Int) < (s.size : Int)) = false := by rw [decide_eq_false_iff_not]; omega
                have hd3 : (err == 0) = false := by rw [beq_eq_false_iff_ne]; exact hne
                have hd4 : (err != 0) = true := by simp [hne]
                go_wp2_with fail
                go_region
                all_goals
                  go_wp2_with fail
                  exact bodyPost_ret (v := .tuple #[.agg #[.int .i64 0, .slice none 0 0], .int .i64 err]) (by simp [results, Tryz.results43, go_sem, r0, r1]) rfl (by rw [HE1.out, HE2.out]; first | exact gives_zero (first_below HB.out.drew.blw _ _) | exact gives_zero HB.out.drew.blw | exact gives_zero (first_below HB.out.blw _ _) | exact gives_zero HB.out.blw)
              · have HE1 := Lib.hid e1
                have HE2 := Lib.hid e2
                clear e1 e2 HFS
                have hlt : ¬ kf < s.size := by omega
                have hd2 : decide ((kf : Int) < (s.size : Int)) = false := by rw [decide_eq_false_iff_not]; omega
                subst he0
                have z0 := lv_c0 HB.out.xs
                have z1 := lv_c1 HB.out.xs
                go_wp2_with fail
                exact bodyPost_ret (v := .tuple #[.agg #[.int .i64 C, .slice A M.length cap], .int .i64 0]) (by simp [results, Tryz.results43, go_sem, r0, r1]) rfl (by rw [HE1.out, HE2.out]; exact ⟨A, cap, rfl, HB.out.va.set2 HB.out.res _ _, first_below HB.out.blw _ _⟩)
            | false =>
              rw [tkEnd_no hc] at hr7
              have HB := Lib.hid ((HB.out.call hr7 hg7).setB true)
              have q2 := hr7.bd
              have qf := hr7.fr
              have HFS := Lib.hid (show FS s (spEnd s k) true err C M from .inl ⟨rfl, HS.out.open_ ht.out hc⟩)
              have hkf : spEnd s k ≤ s.size := spEnd_le hk
              replace hc := Lib.hid hc
              clear hr7 hg7
              go_wp2_with fail
              refine (rspaces_any b s k true err _ (by simpa using HB.out.rd) hk hs).mono ?_
              rintro e w8 ⟨rfl, hr8, hg8⟩
              have HB := Lib.hid ((show LX w _ b X s k true err C A cap M by simpa using HB.out).call hr8 hg8)
              clear hr8 hg8 q2 qf
              generalize spEnd s k = kf at *
              have hbt : Hid (prsL s = (0, []) ∧ prsE s = 4) := by
                rcases HFS.out.out hkf hs with ⟨_, h⟩ | ⟨h, _⟩ | ⟨h, _⟩ | ⟨h, _⟩
                · exact Lib.hid h
                · cases h
                · cases h
                · cases h
              have HE1 := Lib.hid hbt.out.1
              have HE2 := Lib.hid hbt.out.2
              clear hbt HFS
              have hrl := HB.out.rlt
              have r0 := lv_c0 HB.out.res
              have r1 := lv_c1 HB.out.res
              have rf := lv_fr HB.out.res
              have q0 := HB.out.rd.text
              have q1 := HB.out.rd.at_
              have q2 := HB.out.rd.bd
              have q3 := HB.out.rd.er
              have qf := HB.out.rd.fr
              go_wp2_with fail
              exact bodyPost_ret (v := .tuple #[.agg #[.int .i64 0, .slice none 0 0], .int .i64 4]) (by simp [results, Tryz.results43, go_sem, r0, r1]) rfl (by rw [HE1.out, HE2.out]; first | exact gives_zero (first_below HB.out.blw _ _) | exact gives_zero HB.out.blw)
    | false =>
      have HM := Lib.hid hmx
      have hno := max_ext_no (show Lib.hasPrefix (s.data.toList.drop (spEnd s 0)) mxS.data.toList = false from hmx)
      clear hmx
      generalize hK0 : spEnd s 0 = K0 at *
      have hw3 : IntKind.i64.wrap ((K0 : Int) + 3) = (K0 : Int) + 3 := IntWalk.i64_in _ (by omega)
      have hp3 : (0 : Int) ≤ (K0 : Int) + 3 := by omega
      have ht3 : ((K0 : Int) + 3).toNat = K0 + 3 := by omega
      have x0 := HX.out.rd.text
      have x1 := HX.out.rd.at_
      by_cases h3 : K0 + 3 ≤ s.size
      · have hg3 : decide ((K0 : Int) + 3 ≤ (s.size : Int)) = true := by rw [decide_eq_true_eq]; omega
        have hn1 : ((s.extract K0 (K0 + 3)).toList == [109, 97, 120]) = false := by rw [beq_eq_false_iff_ne, ba_list]; intro e; exact hno (bytes_ext e)
        go_wp2_with fail
        go_quiet (fail)
        have HX2 := Lib.hid (HX.out.drewN nq)
        clear HX x0 x1 hw3 hg3 hp3 ht3
        generalize (w1.alloc (.cells #[.int .i64 0, .slice none 0 0] 24)).drewN nq = W2 at *
        generalize w.heap.size + 1 = b at *
        generalize w1.heap.size = X at *
        go_wp2_with fail
        refine (rpart_any b s K0 false 0 _ HX2.out.rd hK hs).mono ?_
        rintro e w5 ⟨A, C, M, cap, kf, bad5, err, rfl, hva5, hfr5, hc5, hl5, hrr5, hg5, hkf, hpt5⟩
        have HX6 := Lib.hid (HX2.out.call hrr5 hg5)
        have hx0 := lv_c0 HX6.out.xs
        have hx1 := lv_c1 HX6.out.xs
        have hxf := lv_fr HX6.out.xs
        have HFS := Lib.hid (FS.one HM.out (by rw [hK0]; exact hpt5))
        have HB := Lib.hid (HX6.out.setX (c2 := C) (cap2 := cap) hva5 (fun c off h0 e => by have := hfr5 c off h0 e; have := HX2.out.rd.lt; omega))
        clear HX2 HX6 hva5 hfr5 hc5 hl5 hrr5 hg5 hpt5 HM
        cases bad5 with
        | true =>
          have hbt : Hid (prsL s = (0, []) ∧ prsE s = 4) := by
            rcases HFS.out.out hkf hs with ⟨_, h⟩ | ⟨h, _⟩ | ⟨h, _⟩ | ⟨h, _⟩
            · exact Lib.hid h
            · cases h
            · cases h
            · cases h
          have HE1 := Lib.hid hbt.out.1
          have HE2 := Lib.hid hbt.out.2
          clear hbt HFS
          have hrl := HB.out.rlt
          have r0 := lv_c0 HB.out.res
          have r1 := lv_c1 HB.out.res
          have rf := lv_fr HB.out.res
          have q0 := HB.out.rd.text
          have q1 := HB.out.rd.at_
          have q2 := HB.out.rd.bd
          have q3 := HB.out.rd.er
          have qf := HB.out.rd.fr
          go_wp2_with fail
          exact bodyPost_ret (v := .tuple #[.agg #[.int .i64 0, .slice none 0 0], .int .i64 4]) (by simp [results, Tryz.results43, go_sem, r0, r1]) rfl (by rw [HE1.out, HE2.out]; first | exact gives_zero (first_below HB.out.blw _ _) | exact gives_zero HB.out.blw)
        | false =>
          have hrl := HB.out.rlt
          have r0 := lv_c0 HB.out.res
          have r1 := lv_c1 HB.out.res
          have rf := lv_fr HB.out.res
          have q0 := HB.out.rd.text
          have q1 := HB.out.rd.at_
          have q2 := HB.out.rd.bd
          have q3 := HB.out.rd.er
          have qf := HB.out.rd.fr
          rcases HFS.out.out hkf hs with ⟨h0, _⟩ | ⟨_, hlt, e1, e2⟩ | ⟨_, heq, hne, e1, e2⟩ | ⟨_, heq, he0, e1, e2⟩
          · cases h0
          · have HE1 := Lib.hid e1
            have HE2 := Lib.hid e2
            clear e1 e2 HFS
            have hd2 : decide ((kf : Int) < (s.size : Int)) = true := by rw [decide_eq_true_eq]; omega
            go_wp2_with fail
            exact bodyPost_ret (v := .tuple #[.agg #[.int .i64 0, .slice none 0 0], .int .i64 4]) (by simp [results, Tryz.results43, go_sem, r0, r1]) rfl (by rw [HE1.out, HE2.out]; first | exact gives_zero (first_below HB.out.blw _ _) | exact gives_zero HB.out.blw)
          · have HE1 := Lib.hid e1
            have HE2 := Lib.hid e2
            clear e1 e2 HFS
            have hlt : ¬ kf < s.size := by omega
            have hd2 : decide ((kf : Int) < (s.size : Int)) = false := by rw [decide_eq_false_iff_not]; omega
            have hd3 : (err == 0) = false := by rw [beq_eq_false_iff_ne]; exact hne
            have hd4 : (err != 0) = true := by simp [hne]
            go_wp2_with fail
            go_region
            all_goals
              go_wp2_with fail
              exact bodyPost_ret (v := .tuple #[.agg #[.int .i64 0, .slice none 0 0], .int .i64 err]) (by simp [results, Tryz.results43, go_sem, r0, r1]) rfl (by rw [HE1.out, HE2.out]; first | exact gives_zero (first_below HB.out.drew.blw _ _) | exact gives_zero HB.out.drew.blw | exact gives_zero (first_below HB.out.blw _ _) | exact gives_zero HB.out.blw)
          · have HE1 := Lib.hid e1
            have HE2 := Lib.hid e2
            clear e1 e2 HFS
            have hlt : ¬ kf < s.size := by omega
            have hd2 : decide ((kf : Int) < (s.size : Int)) = false := by rw [decide_eq_false_iff_not]; omega
            subst he0
            have z0 := lv_c0 HB.out.xs
            have z1 := lv_c1 HB.out.xs
            go_wp2_with fail
            exact bodyPost_ret (v := .tuple #[.agg #[.int .i64 C, .slice A M.length cap], .int .i64 0]) (by simp [results, Tryz.results43, go_sem, r0, r1]) rfl (by rw [HE1.out, HE2.out]; exact ⟨A, cap, rfl, HB.out.va.set2 HB.out.res _ _, first_below HB.out.blw _ _⟩)
      · have hg3 : decide ((K0 : Int) + 3 ≤ (s.size : Int)) = false := by rw [decide_eq_false_iff_not]; omega
        clear hno
        go_wp2_with fail
        go_quiet (fail)
        have HX2 := Lib.hid (HX.out.drewN nq)
        clear HX x0 x1 hw3 hg3 hp3 ht3
        generalize (w1.alloc (.cells #[.int .i64 0, .slice none 0 0] 24)).drewN nq = W2 at *
        generalize w.heap.size + 1 = b at *
        generalize w1.heap.size = X at *
        go_wp2_with fail
        refine (rpart_any b s K0 false 0 _ HX2.out.rd hK hs).mono ?_
        rintro e w5 ⟨A, C, M, cap, kf, bad5, err, rfl, hva5, hfr5, hc5, hl5, hrr5, hg5, hkf, hpt5⟩
        have HX6 := Lib.hid (HX2.out.call hrr5 hg5)
        have hx0 := lv_c0 HX6.out.xs
        have hx1 := lv_c1 HX6.out.xs
        have hxf := lv_fr HX6.out.xs
        have HFS := Lib.hid (FS.one HM.out (by rw [hK0]; exact hpt5))
        have HB := Lib.hid (HX6.out.setX (c2 := C) (cap2 := cap) hva5 (fun c off h0 e => by have := hfr5 c off h0 e; have := HX2.out.rd.lt; omega))
        clear HX2 HX6 hva5 hfr5 hc5 hl5 hrr5 hg5 hpt5 HM
        cases bad5 with
        | true =>
          have hbt : Hid (prsL s = (0, []) ∧ prsE s = 4) := by
            rcases HFS.out.out hkf hs with ⟨_, h⟩ | ⟨h, _⟩ | ⟨h, _⟩ | ⟨h, _⟩
            · exact Lib.hid h
            · cases h
            · cases h
            · cases h
          have HE1 := Lib.hid hbt.out.1
          have HE2 := Lib.hid hbt.out.2
          clear hbt HFS
          have hrl := HB.out.rlt
          have r0 := lv_c0 HB.out.res
          have r1 := lv_c1 HB.out.res
          have rf := lv_fr HB.out.res
          have q0 := HB.out.rd.text
          have q1 := HB.out.rd.at_
          have q2 := HB.out.rd.bd
          have q3 := HB.out.rd.er
          have qf := HB.out.rd.fr
          go_wp2_with fail
          exact bodyPost_ret (v := .tuple #[.agg #[.int .i64 0, .slice none 0 0], .int .i64 4]) (by simp [results, Tryz.results43, go_sem, r0, r1]) rfl (by rw [HE1.out, HE2.out]; first | exact gives_zero (first_below HB.out.blw _ _) | exact gives_zero HB.out.blw)
        | false =>
          have hrl := HB.out.rlt
          have r0 := lv_c0 HB.out.res
          have r1 := lv_c1 HB.out.res
          have rf := lv_fr HB.out.res
          have q0 := HB.out.rd.text
          have q1 := HB.out.rd.at_
          have q2 := HB.out.rd.bd
          have q3 := HB.out.rd.er
          have qf := HB.out.rd.fr
          rcases HFS.out.out hkf hs with ⟨h0, _⟩ | ⟨_, hlt, e1, e2⟩ | ⟨_, heq, hne, e1, e2⟩ | ⟨_, heq, he0, e1, e2⟩
          · cases h0
          · have HE1 := Lib.hid e1
            have HE2 := Lib.hid e2
            clear e1 e2 HFS
            have hd2 : decide ((kf : Int) < (s.size : Int)) = true := by rw [decide_eq_true_eq]; omega
            go_wp2_with fail
            exact bodyPost_ret (v := .tuple #[.agg #[.int .i64 0, .slice none 0 0], .int .i64 4]) (by simp [results, Tryz.results43, go_sem, r0, r1]) rfl (by rw [HE1.out, HE2.out]; first | exact gives_zero (first_below HB.out.blw _ _) | exact gives_zero HB.out.blw)
          · have HE1 := Lib.hid e1
            have HE2 := Lib.hid e2
            clear e1 e2 HFS
            have hlt : ¬ kf < s.size := by omega
            have hd2 : decide ((kf : Int) < (s.size : Int)) = false := by rw [decide_eq_false_iff_not]; omega
            have hd3 : (err == 0) = false := by rw [beq_eq_false_iff_ne]; exact hne
            have hd4 : (err != 0) = true := by simp [hne]
            go_wp2_with fail
            go_region
            all_goals
              go_wp2_with fail
              exact bodyPost_ret (v := .tuple #[.agg #[.int .i64 0, .slice none 0 0], .int .i64 err]) (by simp [results, Tryz.results43, go_sem, r0, r1]) rfl (by rw [HE1.out, HE2.out]; first | exact gives_zero (first_below HB.out.drew.blw _ _) | exact gives_zero HB.out.drew.blw | exact gives_zero (first_below HB.out.blw _ _) | exact gives_zero HB.out.blw)
          · have HE1 := Lib.hid e1
            have HE2 := Lib.hid e2
            clear e1 e2 HFS
            have hlt : ¬ kf < s.size := by omega
            have hd2 : decide ((kf : Int) < (s.size : Int)) = false := by rw [decide_eq_false_iff_not]; omega
            subst he0
            have z0 := lv_c0 HB.out.xs
            have z1 := lv_c1 HB.out.xs
            go_wp2_with fail
            exact bodyPost_ret (v := .tuple #[.agg #[.int .i64 C, .slice A M.length cap], .int .i64 0]) (by simp [results, Tryz.results43, go_sem, r0, r1]) rfl (by rw [HE1.out, HE2.out]; exact ⟨A, cap, rfl, HB.out.va.set2 HB.out.res _ _, first_below HB.out.blw _ _⟩)

/-! LevelParses: the law's walk. -/

set_option maxRecDepth 100000 in
set_option maxHeartbeats 8000000 in
theorem levelParses_any (s : ByteArray) (w : World) (hp : Pow w) :
    Calls Tryz.prog 9 #[.string s] w fun e w' => e = .returned (.bool true) ∧ Below w.heap.size w w' := by
  by_cases hl : 600 < s.size
  · have hd : decide (600 < (s.size : Int)) = true := by rw [decide_eq_true_eq]; omega
    go_enter Tryz.func9, Tryz.ntmps9
    go_wp2_with fail
    refine (awake_any _ hp).mono ?_
    rintro e w2 ⟨rfl, hb2⟩
    go_wp2
    go_ret
    exact ⟨rfl, hb2⟩
  · have hd : decide (600 < (s.size : Int)) = false := by rw [decide_eq_false_iff_not]; omega
    have hs63 : s.size ≤ 140737488355328 := by omega
    have HP := Lib.hid (parse_any s · hs63)
    have HR := Lib.hid (rparse_any s · hs63)
    generalize (prsL s).1 = c at *
    generalize (prsL s).2 = vs at *
    generalize prsE s = er at *
    go_enter Tryz.func9, Tryz.ntmps9
    go_wp2_with fail
    refine (HP.out _).mono ?_
    rintro e w2 ⟨A2, cap2, rfl, hv2, hb2⟩
    have P2 := Lib.hid (hp.below hb2)
    have V2 := Lib.hid hv2
    have B2 := Lib.hid hb2
    have L2 := Lib.hid (LvAt.new w2 c A2 vs.length cap2)
    clear hv2 hb2 hp
    go_wp2_with fail
    refine (HR.out _).mono ?_
    rintro e w3 ⟨A3, cap3, rfl, hv3, hb3⟩
    have P3 := Lib.hid (P2.out.next hb3)
    have V3 := Lib.hid (V2.out.next hb3)
    have Y3 := Lib.hid hv3
    have B3 := Lib.hid (below_next B2.out hb3)
    have L3 := Lib.hid (L2.out.below hb3)
    have l3 := L3.out.cells
    obtain ⟨x0, x1⟩ := l3
    have hlt := L3.out.lt
    clear hv3 hb3 B2 P2 V2 L2 HP HR
    go_wp2_with fail
    refine (rsame_any c A2 cap2 vs c A3 cap3 vs w3.heap.size _ (V3.out.alloc (Nat.le_refl _) _) (Y3.out.alloc (Nat.le_refl _) _) (by simp)).mono ?_
    rw [sameB_refl]
    rintro e w4 ⟨rfl, hb4⟩
    have P4 := Lib.hid (P3.out.next hb4)
    have B4 := Lib.hid (below_next B3.out hb4)
    clear hb4 P3 B3
    go_wp2_with fail
    refine (awake_any _ P4.out).mono ?_
    rintro e w5 ⟨rfl, hb5⟩
    have B5 := Lib.hid (B4.out.trans (hb5.mono B4.out.size))
    clear hb5
    go_wp2
    go_ret
    exact ⟨rfl, B5.out⟩
end Go.Proofs.YtipnabbdhmapkaaGreatDoor
