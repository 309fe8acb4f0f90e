/- The reference's reader: what a part is, as a plain fact. -/
import Derived.Test.YtipnabbdhmapkaaGreatDoorRrn
import Derived.Test.YtipnabbdhmapkaaGreatDoorPrs
import Derived.Test.YtipnabbdhmapkaaGreatDoorRep
namespace Go.Proofs.YtipnabbdhmapkaaGreatDoor
open Go.RowKit

/-! The reference's reader: what a part is, as a plain fact. -/

theorem signB_one (s : ByteArray) (k : Nat) (c : UInt8) : signB s k ⟨#[c]⟩ = tkB s (spEnd s k) c := by
  unfold signB tkB Lib.hasPrefix
  cases s.data.toList.drop (spEnd s k) with
  | nil => rfl
  | cons a r =>
    show (c == a && ([] : List UInt8).isPrefixOf r) = (some a == some c)
    have : ([] : List UInt8).isPrefixOf r = true := by cases r <;> rfl
    rw [this, Bool.and_true]
    by_cases h : c = a
    · subst h; simp
    · have h' : a ≠ c := fun e => h e.symm
      have e1 : (c == a) = false := by simpa using h
      have e2 : (some a == some c) = false := by rw [beq_eq_false_iff_ne]; intro e; exact h' (Option.some.inj e)
      rw [e1, e2]
theorem drop_take_sp : ∀ l : List UInt8, (l.drop (l.takeWhile (· == 32)).length).takeWhile (· == 32) = [] := by
  intro l
  induction l with
  | nil => rfl
  | cons a r ih =>
    cases h : (a == 32) with
    | true => simp only [List.takeWhile_cons, h, if_true, List.length_cons, List.drop_succ_cons]; exact ih
    | false => simp [h]
theorem spEnd_idem (s : ByteArray) (k : Nat) : spEnd s (spEnd s k) = spEnd s k := by
  have h := drop_take_sp (s.data.toList.drop k)
  rw [List.drop_drop] at h
  show spEnd s k + ((s.data.toList.drop (spEnd s k)).takeWhile (· == 32)).length = spEnd s k
  have : (s.data.toList.drop (spEnd s k)).takeWhile (· == 32) = [] := h
  rw [this]
  rfl
theorem tkB_two {s : ByteArray} {k : Nat} {c d : UInt8} (h : tkB s k c = true) (hne : c ≠ d) : tkB s k d = false := by
  unfold tkB at *
  have h1 := eq_of_beq h
  rw [h1, beq_eq_false_iff_ne]
  intro e
  exact hne (Option.some.inj e)
theorem signEnd_no {s : ByteArray} {k : Nat} {c : UInt8} (h : tkB s (spEnd s k) c = false) : signEnd s k ⟨#[c]⟩ = spEnd s k := by
  unfold signEnd
  rw [signB_one, h]
  rfl
theorem signEnd_yes {s : ByteArray} {k : Nat} {c : UInt8} (h : tkB s (spEnd s k) c = true) : signEnd s k ⟨#[c]⟩ = spEnd s k + 1 := by
  unfold signEnd
  rw [signB_one, h]
  rfl
theorem pre_meta {s : ByteArray} {k : Nat} (h : tkB s (spEnd s k) 63 = true) : preOf s k = (qS, spEnd s k + 1) := by
  have h2 := tkB_two (d := 117) h (by decide)
  unfold preOf
  rw [signB_one, h2, if_neg (by decide), signEnd_no h2, signB_one, spEnd_idem, h, if_pos rfl, signEnd_yes (by rw [spEnd_idem]; exact h), spEnd_idem]
theorem pre_u {s : ByteArray} {k : Nat} (h : tkB s (spEnd s k) 117 = true) : preOf s k = (uS, spEnd s k + 1) := by
  unfold preOf
  rw [signB_one, h, if_pos rfl, signEnd_yes h]
theorem pre_none {s : ByteArray} {k : Nat} (h : tkB s (spEnd s k) 63 = false) (h2 : tkB s (spEnd s k) 117 = false) : preOf s k = (⟨#[]⟩, spEnd s k) := by
  unfold preOf
  rw [signB_one, h2, if_neg (by decide), signEnd_no h2, signB_one, spEnd_idem, h, if_neg (by decide), signEnd_no (by rw [spEnd_idem]; exact h), spEnd_idem]

/-- What a part leaves behind. -/
structure PT (s : ByteArray) (k : Nat) (bad : Bool) (err : Int) (bad' : Bool) (k' : Nat) (c : Int) (vs : List (Int × Int)) (err' : Int) : Prop where
  bd : bad' = (bad || !(partOf s k).ok)
  go : bad' = false → k' = spEnd s (partOf s k).at_ ∧ c = plC (partOf s k).pv ∧ vs = plV (partOf s k).pv ∧ err' = if err = 0 then plE (partOf s k).pv else err
theorem not_and_false {err : Int} {bad : Bool} (e1 : Int) (h : bad = false) : (if err = 0 ∧ bad = false then e1 else err) = if err = 0 then e1 else err := by
  subst h; simp
theorem pt_const {s : ByteArray} {k K k1 n : Nat} {bad : Bool} {err : Int} (hp : preOf s k = (⟨#[]⟩, K)) (hn : numB (digs s K) = true → (n : Int) = numV (digs s K) ∧ k1 = digEnd s K) :
    PT s k bad err (bad || !numB (digs s K)) (spEnd s k1) (ofC n) [] (if err = 0 ∧ (bad || !numB (digs s K)) = false then ofE n else err) := by
  cases h : numB (digs s K) with
  | false =>
    rw [show (bad || !false) = true by cases bad <;> rfl]
    exact ⟨by rw [partOf_fail hp h]; cases bad <;> rfl, fun e => by cases e⟩
  | true =>
    obtain ⟨h1, h2⟩ := hn h
    rw [show (bad || !true) = bad by cases bad <;> rfl]
    refine ⟨by rw [partOf_const hp h]; cases bad <;> rfl, fun e => ?_⟩
    rw [partOf_const hp h, h1, h2, not_and_false _ e]
    exact ⟨rfl, rfl, rfl, rfl⟩
/-- The variable that a sign and a number name. -/
def vrI (P : ByteArray) (n : Int) : Int := if P = uS then n else -1 - n
theorem pl_var {P : ByteArray} (n pl : Int) (h : P = uS ∨ P = qS) : plC ⟨P, n, pl⟩ = 0 ∧ plV ⟨P, n, pl⟩ = varV (vrI P n) pl ∧ plE ⟨P, n, pl⟩ = varE (vrI P n) pl := by
  rcases h with rfl | rfl
  · exact ⟨rfl, rfl, rfl⟩
  · have hne : ¬ qS = uS := by decide
    exact ⟨by simp [plC], by simp [plV, vrI], by simp [plE, vrI]⟩
theorem pt_bare {s : ByteArray} {k K k1 n : Nat} {P : ByteArray} {bad : Bool} {err : Int} (hp : preOf s k = (P, K)) (hP : P = uS ∨ P = qS) (hn : numB (digs s K) = true → (n : Int) = numV (digs s K) ∧ k1 = digEnd s K) (ht : tkB s (spEnd s k1) 43 = false) :
    PT s k bad err (bad || !numB (digs s K)) (spEnd s k1) 0 (varV (vrI P n) 0) (if err = 0 ∧ (bad || !numB (digs s K)) = false then varE (vrI P n) 0 else err) := by
  cases h : numB (digs s K) with
  | false =>
    rw [show (bad || !false) = true by cases bad <;> rfl]
    exact ⟨by rw [partOf_fail hp h]; cases bad <;> rfl, fun e => by cases e⟩
  | true =>
    obtain ⟨h1, h2⟩ := hn h
    subst h2
    have hne : P ≠ ⟨#[]⟩ := by rcases hP with rfl | rfl <;> decide
    have hs : signB s (digEnd s K) plS = false := by rw [signB_one]; exact ht
    rw [show (bad || !true) = bad by cases bad <;> rfl]
    refine ⟨by rw [partOf_bare hp hne h hs]; cases bad <;> rfl, fun e => ?_⟩
    obtain ⟨e1, e2, e3⟩ := pl_var (numV (digs s K)) 0 hP
    rw [partOf_bare hp hne h hs, h1, not_and_false _ e]
    exact ⟨by rw [signEnd_no ht]; exact (spEnd_idem _ _).symm, e1.symm, e2.symm, by rw [show PartR.pv ⟨P, numV (digs s K), 0, true, signEnd s (digEnd s K) plS⟩ = ⟨P, numV (digs s K), 0⟩ from rfl, e3]⟩
theorem pt_plus {s : ByteArray} {k K k1 n k3 n2 : Nat} {P : ByteArray} {bad : Bool} {err : Int} (hp : preOf s k = (P, K)) (hP : P = uS ∨ P = qS) (hn : numB (digs s K) = true → (n : Int) = numV (digs s K) ∧ k1 = digEnd s K) (ht : tkB s (spEnd s k1) 43 = true)
    (hn2 : numB (digs s (spEnd s (spEnd s k1 + 1))) = true → (n2 : Int) = numV (digs s (spEnd s (spEnd s k1 + 1))) ∧ k3 = digEnd s (spEnd s (spEnd s k1 + 1))) :
    PT s k bad err ((bad || !numB (digs s K)) || !numB (digs s (spEnd s (spEnd s k1 + 1)))) (spEnd s k3) 0 (varV (vrI P n) n2) (if err = 0 ∧ ((bad || !numB (digs s K)) || !numB (digs s (spEnd s (spEnd s k1 + 1)))) = false then varE (vrI P n) n2 else err) := by
  cases h : numB (digs s K) with
  | false =>
    rw [show ((bad || !false) || !numB (digs s (spEnd s (spEnd s k1 + 1)))) = true by cases bad <;> rfl]
    exact ⟨by rw [partOf_fail hp h]; cases bad <;> rfl, fun e => by cases e⟩
  | true =>
    obtain ⟨h1, h2⟩ := hn h
    subst h2
    have hne : P ≠ ⟨#[]⟩ := by rcases hP with rfl | rfl <;> decide
    have hs : signB s (digEnd s K) plS = true := by rw [signB_one]; exact ht
    have hpl := partOf_plus hp hne h hs
    rw [signEnd_yes ht] at hpl
    rw [show (bad || !true) = bad by cases bad <;> rfl]
    generalize spEnd s (spEnd s (digEnd s K) + 1) = J at *
    refine ⟨by rw [hpl], fun e => ?_⟩
    cases h3 : numB (digs s J) with
    | false => rw [h3] at e; revert e; cases bad <;> intro e <;> cases e
    | true =>
      obtain ⟨g1, g2⟩ := hn2 h3
      rw [h3] at e
      obtain ⟨e1, e2, e3⟩ := pl_var (numV (digs s K)) (numV (digs s J)) hP
      rw [hpl, h1, g1, g2, not_and_false _ e]
      exact ⟨rfl, e1.symm, e2.symm, by rw [show PartR.pv ⟨P, numV (digs s K), numV (digs s J), numB (digs s J), digEnd s J⟩ = ⟨P, numV (digs s K), numV (digs s J)⟩ from rfl, e3]⟩

set_option maxHeartbeats 1000000 in
theorem rvar_fresh (i p : Int) (w : World) :
    Calls Tryz.prog 18 #[.int .i64 i, .int .i64 p] w (GivesF 0 (varV i p) (varE i p) w) := by
  by_cases h1 : -65536 ≤ i ∧ i ≤ 7
  · obtain ⟨h1, h2⟩ := h1
    by_cases h3 : 0 ≤ p
    · by_cases h4 : p ≤ 100
      · rw [show varV i p = [(i, p)] by simp [varV, varOk, h1, h2, h3, h4], show varE i p = 0 by simp [varE, h1, h2, h3, h4]]
        go_enter Tryz.func18, Tryz.ntmps18
        go_wp2
        exact bodyPost_ret (v := .tuple #[.agg #[.int .i64 0, .slice (some ⟨w.heap.size + 1, 0, none⟩) 1 1], .int .i64 0]) (by simp [results, Tryz.results18, go_sem]) rfl ⟨some ⟨w.heap.size + 1, 0, none⟩, 1, rfl, VA.one (by go_simp) (by go_simp) (by simp), ((Below.refl _ _).alloc (Nat.le_refl _) _).alloc (by simp) _, fun b off _ e => by cases e; omega⟩
      · rw [show varV i p = [] by simp [varV, varOk, h4], show varE i p = 15 by simp [varE, h1, h2, h3, h4]]
        go_enter Tryz.func18, Tryz.ntmps18
        go_wp2
        exact bodyPost_ret (v := .tuple #[.agg #[.int .i64 0, .slice none 0 0], .int .i64 15]) (by simp [results, Tryz.results18, go_sem]) rfl (givesf_zero ((Below.refl _ _).alloc (Nat.le_refl _) _))
    · rw [show varV i p = [] by simp [varV, varOk, h3], show varE i p = 2 by simp [varE, h3]]
      go_enter Tryz.func18, Tryz.ntmps18
      go_wp2
      exact bodyPost_ret (v := .tuple #[.agg #[.int .i64 0, .slice none 0 0], .int .i64 2]) (by simp [results, Tryz.results18, go_sem]) rfl (givesf_zero ((Below.refl _ _).alloc (Nat.le_refl _) _))
  · rw [show varV i p = [] by rcases Decidable.not_and_iff_or_not.1 h1 with h | h <;> simp [varV, varOk, h], show varE i p = 2 by rcases Decidable.not_and_iff_or_not.1 h1 with h | h <;> simp [varE, h]]
    go_enter Tryz.func18, Tryz.ntmps18
    go_wp2
    all_goals exact bodyPost_ret (v := .tuple #[.agg #[.int .i64 0, .slice none 0 0], .int .i64 2]) (by simp [results, Tryz.results18, go_sem]) rfl (givesf_zero ((Below.refl _ _).alloc (Nat.le_refl _) _))

/-! The reference's reader: a part. -/

theorem tkEnd_no {s : ByteArray} {k : Nat} {c : UInt8} (h : tkB s k c = false) : tkEnd s k c = k := by simp [tkEnd, h]
theorem tkEnd_yes {s : ByteArray} {k : Nat} {c : UInt8} (h : tkB s k c = true) : tkEnd s k c = k + 1 := by simp [tkEnd, h]
/-- Where part stands: the reader and the result's cell. -/
structure PX (w W : World) (b : Nat) (s : ByteArray) (k : Nat) (bad : Bool) (err : Int) : Prop where
  rd : Rr W b s k bad err
  lt : b < w.heap.size
  grown : w.grownBy W (some b)
  size : w.heap.size + 1 ≤ W.heap.size
  res : ∃ x y, W.heap[w.heap.size]? = some (.cells #[x, y] 24 (0, 0))
namespace PX
variable {w W W' : World} {b : Nat} {s : ByteArray} {k : Nat} {bad : Bool} {err : Int}
theorem start (h : Rr w b s k bad err) : PX w (w.alloc (.cells #[.int .i64 0, .slice none 0 0] 24)) b s k bad err :=
  ⟨h.alloc _, h.lt, grown_alloc (grown_refl _ _) _, by simp, _, _, Array.getElem?_push_size⟩
theorem call (h : PX w W b s k bad err) {k' : Nat} {bad' : Bool} {err' : Int} (hr : Rr W' b s k' bad' err') (hg : W.grownBy W' (some b)) : PX w W' b s k' bad' err' :=
  have hlt := h.lt
  have hsz := h.size
  have h0 := hg.block w.heap.size (by omega) (by simp; omega)
  ⟨hr, h.lt, grown_trans h.grown hg, Nat.le_trans h.size hg.size, by obtain ⟨x, y, e⟩ := h.res; exact ⟨x, y, h0.trans e⟩⟩
theorem callB (h : PX w W b s k bad err) (hb : Below W.heap.size W W') : PX w W' b s k bad err :=
  h.call (h.rd.below hb) ⟨hb.os, hb.tape, hb.output, hb.size, fun i hi _ => hb.block i hi⟩
theorem alloc (h : PX w W b s k bad err) (o : Obj) : PX w (W.alloc o) b s k bad err := h.callB ((Below.refl _ _).alloc (Nat.le_refl _) o)
theorem rf (h : PX w W b s k bad err) (o : Nat) : W.frozen? ⟨w.heap.size, o, none⟩ = false := by
  obtain ⟨x, y, e⟩ := h.res
  simp [World.frozen?, e]
theorem resc (h : PX w W b s k bad err) : ∃ x y, W.cell? ⟨w.heap.size, 0, none⟩ = some x ∧ W.cell? ⟨w.heap.size, 1, none⟩ = some y := by
  obtain ⟨x, y, e⟩ := h.res
  exact ⟨x, y, by simp [World.cell?, e], by simp [World.cell?, e]⟩
theorem rd2 (h : PX w W b s k bad err) (u0 u1 : Value) : Rr ((W.setCell ⟨w.heap.size, 0, none⟩ u0).setCell ⟨w.heap.size, 1, none⟩ u1) b s k bad err :=
  have hne : b ≠ w.heap.size := Nat.ne_of_lt h.lt
  (Below.heap_setCell _ ⟨w.heap.size, 1, none⟩ u1 b hne).trans ((Below.heap_setCell W ⟨w.heap.size, 0, none⟩ u0 b hne).trans h.rd)
theorem gr2 (h : PX w W b s k bad err) (u0 u1 : Value) : w.grownBy ((W.setCell ⟨w.heap.size, 0, none⟩ u0).setCell ⟨w.heap.size, 1, none⟩ u1) (some b) :=
  PSt.grown_new (PSt.grown_new h.grown (Nat.le_refl _) _ _) (Nat.le_refl _) _ _
end PX
theorem VA.grown_b {W W' : World} {b B : Nat} {A : Option Addr} {vs : List (Int × Int)} (h : VA W B A vs) (hne : ∀ c off, 0 < vs.length → A = some ⟨c, off, none⟩ → c ≠ b) (hg : W.grownBy W' (some b)) (hB : B ≤ W.heap.size := by first | exact Nat.le_refl _ | simp) : VA W' B A vs :=
  ⟨h.1, fun hn => by
    obtain ⟨c, off, e, hb, hc⟩ := h.2 hn
    have hcb := hne c off hn e
    refine ⟨c, off, e, hb, fun j x y hj => ?_⟩
    have hbl := hg.block c (by omega) (by simpa using hcb)
    have := hc j x y hj
    simp only [World.cell?, hbl] at *
    exact this⟩
theorem va_two {W : World} {R B : Nat} {A : Option Addr} {vs : List (Int × Int)} (h : VA W B A vs) (hne : ∀ c off, 0 < vs.length → A = some ⟨c, off, none⟩ → R < c) (u0 u1 : Value) (hB : B ≤ W.heap.size := by exact Nat.le_refl _) : VA ((W.setCell ⟨R, 0, none⟩ u0).setCell ⟨R, 1, none⟩ u1) ((W.setCell ⟨R, 0, none⟩ u0).setCell ⟨R, 1, none⟩ u1).heap.size A vs := by
  have hne' : ∀ c off, 0 < vs.length → A = some ⟨c, off, none⟩ → c ≠ R := fun c off h0 e => by have := hne c off h0 e; omega
  have h2 := (h.setCell (p := ⟨R, 0, none⟩) hne' u0).setCell (p := ⟨R, 1, none⟩) hne' u1
  exact h2.more (by simpa [World.setCell] using hB)
theorem varV_len (i p : Int) : (varV i p).length ≤ 1 := by unfold varV; split <;> simp
theorem vrI_q (n : Int) : vrI qS n = -1 - n := by
  have hne : ¬ qS = uS := by decide
  simp [vrI]
/-- What part returns and leaves. -/
def RPost (s : ByteArray) (k : Nat) (bad : Bool) (err : Int) (w : World) (b : Nat) (e : Ending) (w' : World) : Prop :=
  ∃ (A : Option Addr) (c : Int) (vs : List (Int × Int)) (cap k' : Nat) (bad' : Bool) (err' : Int), e = .returned (.agg #[.int .i64 c, .slice A vs.length cap]) ∧ VA w' w'.heap.size A vs ∧ (∀ b off, 0 < vs.length → A = some ⟨b, off, none⟩ → w.heap.size ≤ b) ∧ 0 ≤ c ∧ vs.length ≤ 1 ∧ Rr w' b s k' bad' err' ∧ w.grownBy w' (some b) ∧ k' ≤ s.size ∧ PT s k bad err bad' k' c vs err'

set_option maxRecDepth 100000 in
set_option maxHeartbeats 2000000 in
theorem rpart_any (b : Nat) (s : ByteArray) (k : Nat) (bad : Bool) (err : Int) (w : World) (hr : Rr w b s k bad err) (hk : k ≤ s.size) (hs : s.size ≤ 65536) :
    Calls Tryz.prog 77 #[.pointer (some ⟨b, 0, none⟩)] w (RPost s k bad err w b) := by
  have hK := spEnd_le hk
  have HP0 := Lib.hid (PX.start hr)
  clear hr
  cases hm : tkB s (spEnd s k) 63 with
  | false =>
    cases hu : tkB s (spEnd s k) 117 with
    | false =>
      have HPR := Lib.hid (pre_none hm hu)
      replace hm := Lib.hid hm
      replace hu := Lib.hid hu
      go_enter Tryz.func77, Tryz.ntmps77
      go_wp2_with fail
      refine (rspaces_any b s k bad err _ HP0.out.rd hk hs).mono ?_
      rintro e w1 ⟨rfl, hr1, hg1⟩
      have HP1 := Lib.hid (HP0.out.call hr1 hg1)
      clear hr1 hg1 HP0
      go_wp2_with fail
      refine (take_any b s (spEnd s k) bad err 63 63 rfl _ HP1.out.rd hK hs).mono ?_
      rintro e w2 ⟨rfl, hr2, hg2⟩
      rw [tkEnd_no hm.out] at hr2
      rw [hm.out]
      have HP2 := Lib.hid (HP1.out.call hr2 hg2)
      clear hr2 hg2 HP1
      go_wp2_with fail
      refine (take_any b s (spEnd s k) bad err 117 117 rfl _ HP2.out.rd hK hs).mono ?_
      rintro e w3 ⟨rfl, hr3, hg3⟩
      rw [tkEnd_no hu.out] at hr3
      rw [hu.out]
      have HP3 := Lib.hid (HP2.out.call hr3 hg3)
      clear hr3 hg3 HP2
      go_wp2_with fail
      refine (rnumber_any b s (spEnd s k) bad err _ HP3.out.rd hK hs).mono ?_
      rintro e w4 ⟨n, k1, rfl, hr4, hg4, hk1, hk1s, hn, hnv⟩
      have HP4 := Lib.hid (HP3.out.call hr4 hg4)
      have HPT := Lib.hid (pt_const (bad := bad) (err := err) HPR.out hnv)
      have hK1 := spEnd_le hk1s
      clear hr4 hg4 HP3 hnv
      generalize (bad || !numB (digs s (spEnd s k))) = bd at HP4 HPT
      go_wp2_with fail
      refine (rspaces_any b s k1 bd err _ HP4.out.rd hk1s hs).mono ?_
      rintro e w5 ⟨rfl, hr5, hg5⟩
      have HP5 := Lib.hid (HP4.out.call hr5 hg5)
      clear hr5 hg5 HP4
      go_wp2_with fail
      refine (rof_any (n : Int) _).mono ?_
      rintro e w6 ⟨A, cap, rfl, hv, hb⟩
      have HP6 := Lib.hid (HP5.out.callB hb)
      clear hb hv HP5
      go_wp2_with fail
      refine (keep_any b s (spEnd s k1) bd err (ofC n) (ofE n) A 0 cap _ (HP6.out.alloc _).rd).mono ?_
      rintro e w7 ⟨rfl, hr7, hg7⟩
      have HP7 := Lib.hid ((HP6.out.alloc _).call hr7 hg7)
      clear hr7 hg7 HP6
      have hsz7 := HP7.out.size
      have hfr7 := HP7.out.rf
      obtain ⟨x7, y7, hx7, hy7⟩ := HP7.out.resc
      have hc0 : 0 ≤ ofC (n : Int) := by unfold ofC; split <;> (try split) <;> omega
      have hc1 := Lib.hid hc0
      clear hc0
      go_wp2_with fail
      exact bodyPost_ret (v := .agg #[.int .i64 (ofC n), .slice A 0 cap]) (by simp [results, Tryz.results77, go_sem, hx7, hy7]) rfl ⟨A, ofC n, [], cap, spEnd s k1, bd, _, rfl, VA.nil, fun _ _ h => absurd h (by simp), hc1.out, by simp, HP7.out.rd2 _ _, HP7.out.gr2 _ _, hK1, HPT.out⟩
    | true =>
      have HPR := Lib.hid (pre_u hu)
      have hJ := tkB_lt hu
      replace hm := Lib.hid hm
      replace hu := Lib.hid hu
      go_enter Tryz.func77, Tryz.ntmps77
      go_wp2_with fail
      refine (rspaces_any b s k bad err _ HP0.out.rd hk hs).mono ?_
      rintro e w1 ⟨rfl, hr1, hg1⟩
      have HP1 := Lib.hid (HP0.out.call hr1 hg1)
      clear hr1 hg1 HP0
      go_wp2_with fail
      refine (take_any b s (spEnd s k) bad err 63 63 rfl _ HP1.out.rd hK hs).mono ?_
      rintro e w2 ⟨rfl, hr2, hg2⟩
      rw [tkEnd_no hm.out] at hr2
      rw [hm.out]
      have HP2 := Lib.hid (HP1.out.call hr2 hg2)
      clear hr2 hg2 HP1
      go_wp2_with fail
      refine (take_any b s (spEnd s k) bad err 117 117 rfl _ HP2.out.rd hK hs).mono ?_
      rintro e w3 ⟨rfl, hr3, hg3⟩
      rw [tkEnd_yes hu.out] at hr3
      rw [hu.out]
      have HP3 := Lib.hid (HP2.out.call hr3 hg3)
      clear hr3 hg3 HP2
      go_wp2_with fail
      refine (rnumber_any b s (spEnd s k + 1) bad err _ HP3.out.rd hJ hs).mono ?_
      rintro e w4 ⟨n, k1, rfl, hr4, hg4, hk1, hk1s, hn, hnv⟩
      have HP4 := Lib.hid (HP3.out.call hr4 hg4)
      have hnv := Lib.hid hnv
      have hK1 := spEnd_le hk1s
      clear hr4 hg4 HP3
      generalize hbd0 : (bad || !numB (digs s (spEnd s k + 1))) = bd0 at HP4
      replace hbd0 := Lib.hid hbd0
      go_wp2_with fail
      refine (rspaces_any b s k1 bd0 err _ HP4.out.rd hk1s hs).mono ?_
      rintro e w5 ⟨rfl, hr5, hg5⟩
      have HP5 := Lib.hid (HP4.out.call hr5 hg5)
      clear hr5 hg5 HP4
      go_wp2_with fail
      refine (take_any b s (spEnd s k1) bd0 err 43 43 rfl _ HP5.out.rd hK1 hs).mono ?_
      rintro e w6 ⟨rfl, hr6, hg6⟩
      cases ht : tkB s (spEnd s k1) 43 with
      | false =>
        rw [tkEnd_no ht] at hr6
        have HP6 := Lib.hid (HP5.out.call hr6 hg6)
        have HPT := Lib.hid (pt_bare (bad := bad) (err := err) HPR.out (.inl rfl) hnv.out ht)
        rw [hbd0.out] at HPT
        rw [show vrI uS (n : Int) = (n : Int) from rfl] at HPT
        have hKZ := hK1
        have hone : (1 : Nat) = 1 := rfl
        replace ht := Lib.hid ht
        clear hr6 hg6 HP5 hone
        obtain ⟨bd, hbd⟩ : ∃ bd, bd = bd0 := ⟨_, rfl⟩
        subst hbd
        go_wp2_with fail
        refine (rvar_fresh ((n : Int)) (0) _).mono ?_
        rintro e w7 ⟨A, cap, rfl, hv, hb, hfrs⟩
        have HP7 := Lib.hid (HP6.out.callB hb)
        have HF := Lib.hid (And.intro hv (fun c0 off h0 e0 => Nat.ne_of_gt (Nat.lt_of_lt_of_le HP6.out.rd.lt (hfrs c0 off h0 e0))))
        have HS := Lib.hid (fun c0 off h0 e0 => Nat.lt_of_lt_of_le (Nat.lt_of_lt_of_le (Nat.lt_succ_self w.heap.size) HP6.out.size) (hfrs c0 off h0 e0))
        clear hb hv hfrs HP6
        go_wp2_with fail
        refine (keep_any b s (spEnd s k1) bd err 0 (varE ((n : Int)) (0)) A (varV ((n : Int)) (0)).length cap _ (HP7.out.alloc _).rd).mono ?_
        rintro e w8 ⟨rfl, hr8, hg8⟩
        have HV := Lib.hid (VA.grown_b (HF.out.1.alloc (Nat.le_refl _) (.cells #[.int .i64 0, .slice A (varV ((n : Int)) (0)).length cap] 24)) HF.out.2 hg8 |>.more (Nat.le_trans (by rw [World.size_alloc]; omega) hg8.size))
        have HP8 := Lib.hid ((HP7.out.alloc _).call hr8 hg8)
        clear hr8 hg8 HP7 HF
        have hsz8 := HP8.out.size
        have hfr8 := HP8.out.rf
        obtain ⟨x8, y8, hx8, hy8⟩ := HP8.out.resc
        have HL := Lib.hid (varV_len ((n : Int)) (0))
        go_wp2_with fail
        exact bodyPost_ret (v := .agg #[.int .i64 0, .slice A (varV ((n : Int)) (0)).length cap]) (by simp [results, Tryz.results77, go_sem, hx8, hy8]) rfl ⟨A, 0, varV ((n : Int)) (0), cap, spEnd s k1, bd, _, rfl, va_two HV.out HS.out _ _, fun c0 off h0 e0 => Nat.le_of_lt (HS.out c0 off h0 e0), Int.le_refl _, HL.out, HP8.out.rd2 _ _, HP8.out.gr2 _ _, hKZ, HPT.out⟩
      | true =>
        rw [tkEnd_yes ht] at hr6
        have HP6 := Lib.hid (HP5.out.call hr6 hg6)
        have hJ2 := tkB_lt ht
        replace ht := Lib.hid ht
        have hJ3 : spEnd s (spEnd s k1 + 1) ≤ s.size := spEnd_le hJ2
        clear hr6 hg6 HP5
        go_wp2_with fail
        refine (rspaces_any b s (spEnd s k1 + 1) bd0 err _ HP6.out.rd hJ2 hs).mono ?_
        rintro e w7 ⟨rfl, hr7, hg7⟩
        have HP7 := Lib.hid (HP6.out.call hr7 hg7)
        clear hr7 hg7 HP6
        go_wp2_with fail
        refine (rnumber_any b s (spEnd s (spEnd s k1 + 1)) bd0 err _ HP7.out.rd hJ3 hs).mono ?_
        rintro e w8 ⟨n2, k3, rfl, hr8, hg8, hk3, hk3s, hn2, hnv2⟩
        have HP8 := Lib.hid (HP7.out.call hr8 hg8)
        have HPT := Lib.hid (pt_plus (bad := bad) (err := err) HPR.out (.inl rfl) hnv.out ht.out hnv2)
        rw [hbd0.out] at HPT
        rw [show vrI uS (n : Int) = (n : Int) from rfl] at HPT
        have hKZ := spEnd_le hk3s
        clear hr8 hg8 HP7 hnv2
        generalize (bd0 || !numB (digs s (spEnd s (spEnd s k1 + 1)))) = bd at HP8 HPT
        go_wp2_with fail
        refine (rspaces_any b s k3 bd err _ HP8.out.rd hk3s hs).mono ?_
        rintro e w9 ⟨rfl, hr9, hg9⟩
        have HP9 := Lib.hid (HP8.out.call hr9 hg9)
        clear hr9 hg9 HP8
        go_wp2_with fail
        refine (rvar_fresh ((n : Int)) ((n2 : Int)) _).mono ?_
        rintro e w10 ⟨A, cap, rfl, hv, hb, hfrs⟩
        have HP10 := Lib.hid (HP9.out.callB hb)
        have HF := Lib.hid (And.intro hv (fun c0 off h0 e0 => Nat.ne_of_gt (Nat.lt_of_lt_of_le HP9.out.rd.lt (hfrs c0 off h0 e0))))
        have HS := Lib.hid (fun c0 off h0 e0 => Nat.lt_of_lt_of_le (Nat.lt_of_lt_of_le (Nat.lt_succ_self w.heap.size) HP9.out.size) (hfrs c0 off h0 e0))
        clear hb hv hfrs HP9
        go_wp2_with fail
        refine (keep_any b s (spEnd s k3) bd err 0 (varE ((n : Int)) ((n2 : Int))) A (varV ((n : Int)) ((n2 : Int))).length cap _ (HP10.out.alloc _).rd).mono ?_
        rintro e w11 ⟨rfl, hr11, hg11⟩
        have HV := Lib.hid (VA.grown_b (HF.out.1.alloc (Nat.le_refl _) (.cells #[.int .i64 0, .slice A (varV ((n : Int)) ((n2 : Int))).length cap] 24)) HF.out.2 hg11 |>.more (Nat.le_trans (by rw [World.size_alloc]; omega) hg11.size))
        have HP11 := Lib.hid ((HP10.out.alloc _).call hr11 hg11)
        clear hr11 hg11 HP10 HF
        have hsz11 := HP11.out.size
        have hfr11 := HP11.out.rf
        obtain ⟨x11, y11, hx11, hy11⟩ := HP11.out.resc
        have HL := Lib.hid (varV_len ((n : Int)) ((n2 : Int)))
        go_wp2_with fail
        exact bodyPost_ret (v := .agg #[.int .i64 0, .slice A (varV ((n : Int)) ((n2 : Int))).length cap]) (by simp [results, Tryz.results77, go_sem, hx11, hy11]) rfl ⟨A, 0, varV ((n : Int)) ((n2 : Int)), cap, spEnd s k3, bd, _, rfl, va_two HV.out HS.out _ _, fun c0 off h0 e0 => Nat.le_of_lt (HS.out c0 off h0 e0), Int.le_refl _, HL.out, HP11.out.rd2 _ _, HP11.out.gr2 _ _, hKZ, HPT.out⟩
  | true =>
      have HPR := Lib.hid (pre_meta hm)
      have hJ := tkB_lt hm
      replace hm := Lib.hid hm
      go_enter Tryz.func77, Tryz.ntmps77
      go_wp2_with fail
      refine (rspaces_any b s k bad err _ HP0.out.rd hk hs).mono ?_
      rintro e w1 ⟨rfl, hr1, hg1⟩
      have HP1 := Lib.hid (HP0.out.call hr1 hg1)
      clear hr1 hg1 HP0
      go_wp2_with fail
      refine (take_any b s (spEnd s k) bad err 63 63 rfl _ HP1.out.rd hK hs).mono ?_
      rintro e w2 ⟨rfl, hr2, hg2⟩
      rw [tkEnd_yes hm.out] at hr2
      rw [hm.out]
      have HP2 := Lib.hid (HP1.out.call hr2 hg2)
      clear hr2 hg2 HP1
      go_wp2_with fail
      refine (rnumber_any b s (spEnd s k + 1) bad err _ HP2.out.rd hJ hs).mono ?_
      rintro e w3 ⟨n, k1, rfl, hr3, hg3, hk1, hk1s, hn, hnv⟩
      have HP3 := Lib.hid (HP2.out.call hr3 hg3)
      have hnv := Lib.hid hnv
      have hK1 := spEnd_le hk1s
      clear hr3 hg3 HP2
      generalize hbd0 : (bad || !numB (digs s (spEnd s k + 1))) = bd0 at HP3
      replace hbd0 := Lib.hid hbd0
      go_wp2_with fail
      refine (rspaces_any b s k1 bd0 err _ HP3.out.rd hk1s hs).mono ?_
      rintro e w4 ⟨rfl, hr4, hg4⟩
      have HP4 := Lib.hid (HP3.out.call hr4 hg4)
      clear hr4 hg4 HP3
      go_wp2_with fail
      refine (take_any b s (spEnd s k1) bd0 err 43 43 rfl _ HP4.out.rd hK1 hs).mono ?_
      rintro e w5 ⟨rfl, hr5, hg5⟩
      cases ht : tkB s (spEnd s k1) 43 with
      | false =>
        rw [tkEnd_no ht] at hr5
        have HP5 := Lib.hid (HP4.out.call hr5 hg5)
        have HPT := Lib.hid (pt_bare (bad := bad) (err := err) HPR.out (.inr rfl) hnv.out ht)
        rw [hbd0.out] at HPT
        rw [show vrI qS (n : Int) = -1 - (n : Int) from vrI_q _] at HPT
        have hKZ := hK1
        have hone : (1 : Nat) = 1 := rfl
        replace ht := Lib.hid ht
        clear hr5 hg5 HP4 hone
        obtain ⟨bd, hbd⟩ : ∃ bd, bd = bd0 := ⟨_, rfl⟩
        subst hbd
        go_wp2_with fail
        refine (rvar_fresh (-1 - (n : Int)) (0) _).mono ?_
        rintro e w6 ⟨A, cap, rfl, hv, hb, hfrs⟩
        have HP6 := Lib.hid (HP5.out.callB hb)
        have HF := Lib.hid (And.intro hv (fun c0 off h0 e0 => Nat.ne_of_gt (Nat.lt_of_lt_of_le HP5.out.rd.lt (hfrs c0 off h0 e0))))
        have HS := Lib.hid (fun c0 off h0 e0 => Nat.lt_of_lt_of_le (Nat.lt_of_lt_of_le (Nat.lt_succ_self w.heap.size) HP5.out.size) (hfrs c0 off h0 e0))
        clear hb hv hfrs HP5
        go_wp2_with fail
        refine (keep_any b s (spEnd s k1) bd err 0 (varE (-1 - (n : Int)) (0)) A (varV (-1 - (n : Int)) (0)).length cap _ (HP6.out.alloc _).rd).mono ?_
        rintro e w7 ⟨rfl, hr7, hg7⟩
        have HV := Lib.hid (VA.grown_b (HF.out.1.alloc (Nat.le_refl _) (.cells #[.int .i64 0, .slice A (varV (-1 - (n : Int)) (0)).length cap] 24)) HF.out.2 hg7 |>.more (Nat.le_trans (by rw [World.size_alloc]; omega) hg7.size))
        have HP7 := Lib.hid ((HP6.out.alloc _).call hr7 hg7)
        clear hr7 hg7 HP6 HF
        have hsz7 := HP7.out.size
        have hfr7 := HP7.out.rf
        obtain ⟨x7, y7, hx7, hy7⟩ := HP7.out.resc
        have HL := Lib.hid (varV_len (-1 - (n : Int)) (0))
        go_wp2_with fail
        exact bodyPost_ret (v := .agg #[.int .i64 0, .slice A (varV (-1 - (n : Int)) (0)).length cap]) (by simp [results, Tryz.results77, go_sem, hx7, hy7]) rfl ⟨A, 0, varV (-1 - (n : Int)) (0), cap, spEnd s k1, bd, _, rfl, va_two HV.out HS.out _ _, fun c0 off h0 e0 => Nat.le_of_lt (HS.out c0 off h0 e0), Int.le_refl _, HL.out, HP7.out.rd2 _ _, HP7.out.gr2 _ _, hKZ, HPT.out⟩
      | true =>
        rw [tkEnd_yes ht] at hr5
        have HP5 := Lib.hid (HP4.out.call hr5 hg5)
        have hJ2 := tkB_lt ht
        replace ht := Lib.hid ht
        have hJ3 : spEnd s (spEnd s k1 + 1) ≤ s.size := spEnd_le hJ2
        clear hr5 hg5 HP4
        go_wp2_with fail
        refine (rspaces_any b s (spEnd s k1 + 1) bd0 err _ HP5.out.rd hJ2 hs).mono ?_
        rintro e w6 ⟨rfl, hr6, hg6⟩
        have HP6 := Lib.hid (HP5.out.call hr6 hg6)
        clear hr6 hg6 HP5
        go_wp2_with fail
        refine (rnumber_any b s (spEnd s (spEnd s k1 + 1)) bd0 err _ HP6.out.rd hJ3 hs).mono ?_
        rintro e w7 ⟨n2, k3, rfl, hr7, hg7, hk3, hk3s, hn2, hnv2⟩
        have HP7 := Lib.hid (HP6.out.call hr7 hg7)
        have HPT := Lib.hid (pt_plus (bad := bad) (err := err) HPR.out (.inr rfl) hnv.out ht.out hnv2)
        rw [hbd0.out] at HPT
        rw [show vrI qS (n : Int) = -1 - (n : Int) from vrI_q _] at HPT
        have hKZ := spEnd_le hk3s
        clear hr7 hg7 HP6 hnv2
        generalize (bd0 || !numB (digs s (spEnd s (spEnd s k1 + 1)))) = bd at HP7 HPT
        go_wp2_with fail
        refine (rspaces_any b s k3 bd err _ HP7.out.rd hk3s hs).mono ?_
        rintro e w8 ⟨rfl, hr8, hg8⟩
        have HP8 := Lib.hid (HP7.out.call hr8 hg8)
        clear hr8 hg8 HP7
        go_wp2_with fail
        refine (rvar_fresh (-1 - (n : Int)) ((n2 : Int)) _).mono ?_
        rintro e w9 ⟨A, cap, rfl, hv, hb, hfrs⟩
        have HP9 := Lib.hid (HP8.out.callB hb)
        have HF := Lib.hid (And.intro hv (fun c0 off h0 e0 => Nat.ne_of_gt (Nat.lt_of_lt_of_le HP8.out.rd.lt (hfrs c0 off h0 e0))))
        have HS := Lib.hid (fun c0 off h0 e0 => Nat.lt_of_lt_of_le (Nat.lt_of_lt_of_le (Nat.lt_succ_self w.heap.size) HP8.out.size) (hfrs c0 off h0 e0))
        clear hb hv hfrs HP8
        go_wp2_with fail
        refine (keep_any b s (spEnd s k3) bd err 0 (varE (-1 - (n : Int)) ((n2 : Int))) A (varV (-1 - (n : Int)) ((n2 : Int))).length cap _ (HP9.out.alloc _).rd).mono ?_
        rintro e w10 ⟨rfl, hr10, hg10⟩
        have HV := Lib.hid (VA.grown_b (HF.out.1.alloc (Nat.le_refl _) (.cells #[.int .i64 0, .slice A (varV (-1 - (n : Int)) ((n2 : Int))).length cap] 24)) HF.out.2 hg10 |>.more (Nat.le_trans (by rw [World.size_alloc]; omega) hg10.size))
        have HP10 := Lib.hid ((HP9.out.alloc _).call hr10 hg10)
        clear hr10 hg10 HP9 HF
        have hsz10 := HP10.out.size
        have hfr10 := HP10.out.rf
        obtain ⟨x10, y10, hx10, hy10⟩ := HP10.out.resc
        have HL := Lib.hid (varV_len (-1 - (n : Int)) ((n2 : Int)))
        go_wp2_with fail
        exact bodyPost_ret (v := .agg #[.int .i64 0, .slice A (varV (-1 - (n : Int)) ((n2 : Int))).length cap]) (by simp [results, Tryz.results77, go_sem, hx10, hy10]) rfl ⟨A, 0, varV (-1 - (n : Int)) ((n2 : Int)), cap, spEnd s k3, bd, _, rfl, va_two HV.out HS.out _ _, fun c0 off h0 e0 => Nat.le_of_lt (HS.out c0 off h0 e0), Int.le_refl _, HL.out, HP10.out.rd2 _ _, HP10.out.gr2 _ _, hKZ, HPT.out⟩

/-! The reference's Parse: the parts one by one, as plain facts. -/

/-- The rest of a list of parts from k on, behind a part and spaces. -/
def tailOf (s : ByteArray) (f k : Nat) : Option (List PV × Nat) := if tkB s k 41 = true then some ([], k + 1) else if tkB s k 44 = true then listOf s f (k + 1) else none
theorem listOf_succ (s : ByteArray) (f k : Nat) : listOf s (f + 1) k = if (partOf s k).ok = false then none else (tailOf s f (spEnd s (partOf s k).at_)).map fun r => ((partOf s k).pv :: r.1, r.2) := by
  unfold listOf tailOf
  by_cases h : (partOf s k).ok = false
  · rw [if_pos h, if_pos h]
  · rw [if_neg h, if_neg h]
    cases h1 : tkB s (spEnd s (partOf s k).at_) 41 with
    | true =>
      have e1 : signB s (partOf s k).at_ rpS = true := by rw [signB_one]; exact h1
      rw [if_pos e1, if_pos rfl, signEnd_yes h1]
      rfl
    | false =>
      have e1 : signB s (partOf s k).at_ rpS = false := by rw [signB_one]; exact h1
      have e2 : signEnd s (partOf s k).at_ rpS = spEnd s (partOf s k).at_ := signEnd_no h1
      cases h2 : tkB s (spEnd s (partOf s k).at_) 44 with
      | true =>
        have h2' : tkB s (spEnd s (spEnd s (partOf s k).at_)) 44 = true := by rw [spEnd_idem]; exact h2
        have e3 : signB s (spEnd s (partOf s k).at_) cmS = true := by rw [signB_one]; exact h2'
        have e4 : signEnd s (spEnd s (partOf s k).at_) cmS = spEnd s (partOf s k).at_ + 1 := by rw [signEnd_yes h2', spEnd_idem]
        simp [e1, e2, e3, e4]
      | false =>
        have h2' : tkB s (spEnd s (spEnd s (partOf s k).at_)) 44 = false := by rw [spEnd_idem]; exact h2
        have e3 : signB s (spEnd s (partOf s k).at_) cmS = false := by rw [signB_one]; exact h2'
        simp [e1, e2, e3]
theorem ofC_ge (n : Int) : 0 ≤ ofC n := by unfold ofC; split <;> (try split) <;> omega
theorem plC_ge (p : PV) : 0 ≤ plC p := by
  unfold plC
  split
  · exact Int.le_refl _
  · split
    · exact Int.le_refl _
    · exact ofC_ge _
theorem asc_one {l : List (Int × Int)} (h : l.length ≤ 1) : Asc l := by
  match l, h with
  | [], _ => exact List.Pairwise.nil
  | [x], _ => exact List.pairwise_singleton _ _
theorem accM_mg (ps : List PV) (p : PV) : accM (ps ++ [p]) = mg (accM ps) (plV p) := by
  rw [accM_step]
  exact raiseAll_mg _ _ (asc_accM ps) (asc_one (plV_ok p).1) fun q hq => ((plV_ok p).2 q hq).2.2.1
theorem firstE_snoc (ps : List PV) (p : PV) : firstE (ps ++ [p]) = if firstE ps = 0 then plE p else firstE ps := by
  induction ps with
  | nil =>
    by_cases h : plE p = 0
    · simp [firstE, h]
    · simp [firstE, h]
  | cons q r ih =>
    show (if plE q = 0 then firstE (r ++ [p]) else plE q) = if (if plE q = 0 then firstE r else plE q) = 0 then plE p else if plE q = 0 then firstE r else plE q
    by_cases h : plE q = 0
    · rw [if_pos h, if_pos h, ih]
    · rw [if_neg h, if_neg h, if_neg h]
/-- Where the reader of a list stands: behind a part and spaces. -/
def LS (s : ByteArray) (K : Nat) (bad : Bool) (err C : Int) (M : List (Int × Int)) : Prop :=
  0 ≤ C ∧ ((bad = true ∧ lvlOf s 0 = none) ∨ (bad = false ∧ M.length ≤ K ∧ ∃ (f : Nat) (ps : List PV), s.size ≤ f + K ∧ C = canonC (accC ps) (accM ps) ∧ M = accM ps ∧ err = firstE ps ∧ partsOf s 0 = (tailOf s f K).map fun r => (ps ++ r.1, r.2)))
theorem canon_ge {c : Int} (h : 0 ≤ c) (M : List (Int × Int)) : 0 ≤ canonC c M := by unfold canonC; split <;> omega
theorem mxI_ge {a b : Int} (h : 0 ≤ b) : 0 ≤ mxI a b := by unfold mxI; split <;> omega
theorem lvl_none {s : ByteArray} (h : partsOf s 0 = none) : lvlOf s 0 = none := by simp [lvlOf, h]
theorem partOf_beyond {s : ByteArray} {k : Nat} (hk : k ≤ s.size) (h : (partOf s k).ok = true) : k < spEnd s (partOf s k).at_ :=
  Nat.lt_of_lt_of_le ((partOf_le hk).2 h) (le_spEnd _ _)
/-- A first part from J on. -/
theorem LS.first {s : ByteArray} {J : Nat} (hJ : J ≤ s.size) {bad2 : Bool} {k2 : Nat} {c2 : Int} {v2 : List (Int × Int)} {err2 : Int} (hl : partsOf s 0 = listOf s (s.size + 1) J) (hp : PT s J false 0 bad2 k2 c2 v2 err2) (hc : 0 ≤ c2) (hv : v2.length ≤ 1) : LS s k2 bad2 err2 c2 v2 := by
  refine ⟨hc, ?_⟩
  have hb := hp.bd
  rw [listOf_succ] at hl
  cases ho : (partOf s J).ok with
  | false =>
    rw [ho] at hb hl
    exact .inl ⟨hb, lvl_none hl⟩
  | true =>
    rw [ho] at hb hl
    have hb' : bad2 = false := hb
    obtain ⟨g1, g2, g3, g4⟩ := hp.go hb'
    have hlt := partOf_beyond hJ ho
    have hm : accM [(partOf s J).pv] = plV (partOf s J).pv := by
      have := accM_mg [] (partOf s J).pv
      rw [List.nil_append] at this
      rw [this]
      exact (raiseAll_mg _ _ List.Pairwise.nil (asc_one (plV_ok _).1) (fun q hq => ((plV_ok _).2 q hq).2.2.1)).symm.trans (by
        show raiseAll [] (plV (partOf s J).pv) = _
        have h1 := (plV_ok (partOf s J).pv).1
        match hpv : plV (partOf s J).pv, h1 with
        | [], _ => rfl
        | [x], _ =>
          have h0 := ((plV_ok (partOf s J).pv).2 x (by rw [hpv]; simp)).2.2.1
          rw [raiseAll_mg [x] [] List.Pairwise.nil (List.pairwise_singleton _ _) (fun q hq => by rw [List.mem_singleton.1 hq]; exact h0)]
          simp [mg])
    have hcc : canonC (accC [(partOf s J).pv]) (accM [(partOf s J).pv]) = plC (partOf s J).pv := by
      have h0 := plC_ge (partOf s J).pv
      have ha : accC [(partOf s J).pv] = plC (partOf s J).pv := by
        show max 0 (plC (partOf s J).pv) = _
        omega
      rw [ha, hm]
      unfold plC plV
      split
      · unfold canonC; split <;> rfl
      · split
        · unfold canonC; split <;> rfl
        · rfl
    refine .inr ⟨hb', by omega, s.size, [(partOf s J).pv], by omega, by rw [hcc, g2], by rw [hm, g3], ?_, ?_⟩
    · rw [g4, if_pos rfl]
      show plE _ = if plE _ = 0 then 0 else plE _
      split
      · assumption
      · rfl
    · rw [hl, if_neg (by decide), g1]
      rfl
theorem LS.step {s : ByteArray} {K : Nat} {err C : Int} {M : List (Int × Int)} (h : LS s K false err C M) (ht : tkB s K 44 = true) {bad2 : Bool} {k2 : Nat} {c2 : Int} {v2 : List (Int × Int)} {err2 : Int} (hp : PT s (K + 1) false err bad2 k2 c2 v2 err2) (hc : 0 ≤ c2) (hv : v2.length ≤ 1) :
    LS s k2 bad2 err2 (canonC (mxI C c2) (mg M v2)) (mg M v2) ∧ (bad2 = false → K < k2) := by
  obtain ⟨hC, h⟩ := h
  rcases h with ⟨h, _⟩ | ⟨_, hML, f, ps, hf, rfl, rfl, rfl, hpo⟩
  · cases h
  have hlt := tkB_lt ht
  have h41 : tkB s K 41 = false := tkB_two ht (by decide)
  obtain ⟨f', rfl⟩ : ∃ f', f = f' + 1 := ⟨f - 1, by omega⟩
  have hb := hp.bd
  have et : tailOf s (f' + 1) K = listOf s (f' + 1) (K + 1) := by unfold tailOf; rw [h41, if_neg (by decide), if_pos ht]
  rw [et, listOf_succ] at hpo
  have hC2 := canon_ge (mxI_ge (a := canonC (accC ps) (accM ps)) hc) (mg (accM ps) v2)
  cases ho : (partOf s (K + 1)).ok with
  | false =>
    rw [ho] at hb hpo
    have hb' : bad2 = true := hb
    exact ⟨⟨hC2, .inl ⟨hb', lvl_none hpo⟩⟩, fun e => by rw [hb'] at e; cases e⟩
  | true =>
    rw [ho] at hb hpo
    have hb' : bad2 = false := hb
    obtain ⟨g1, g2, g3, g4⟩ := hp.go hb'
    have hbe := partOf_beyond (s := s) (k := K + 1) (by omega) ho
    refine ⟨⟨hC2, .inr ⟨hb', ?_, f', ps ++ [(partOf s (K + 1)).pv], by omega, ?_, ?_, ?_, ?_⟩⟩, fun _ => by omega⟩
    · have := mg_length (accM ps) v2
      omega
    · rw [g2, g3, canon_step (plC_ge _), accC_step, accM_mg]
    · rw [g3, accM_mg]
    · rw [g4, firstE_snoc]
    · rw [hpo, if_neg (by decide), g1]
      cases tailOf s f' (spEnd s (partOf s (K + 1)).at_) with
      | none => rfl
      | some r => simp
/-- What the reading comes to. -/
def FS (s : ByteArray) (k : Nat) (bad : Bool) (err C : Int) (M : List (Int × Int)) : Prop :=
  (bad = true ∧ lvlOf s 0 = none) ∨ (bad = false ∧ ∃ ps : List PV, C = canonC (accC ps) (accM ps) ∧ M = accM ps ∧ err = firstE ps ∧ lvlOf s 0 = if k = s.size then some ps else none)
theorem LS.bad {s : ByteArray} {K : Nat} {err C : Int} {M : List (Int × Int)} (h : LS s K true err C M) : lvlOf s 0 = none := by
  rcases h.2 with ⟨_, h⟩ | ⟨h, _⟩
  · exact h
  · cases h
theorem LS.open_ {s : ByteArray} {K : Nat} {err C : Int} {M : List (Int × Int)} (h : LS s K false err C M) (ht : tkB s K 44 = false) (hr : tkB s K 41 = false) : lvlOf s 0 = none := by
  rcases h.2 with ⟨h, _⟩ | ⟨_, _, f, ps, hf, rfl, rfl, rfl, hpo⟩
  · cases h
  · apply lvl_none
    rw [hpo]
    unfold tailOf
    rw [ht, hr]
    rfl
theorem LS.close {s : ByteArray} {K : Nat} {err C : Int} {M : List (Int × Int)} (h : LS s K false err C M) (hr : tkB s K 41 = true) : FS s (spEnd s (K + 1)) false err C M := by
  rcases h.2 with ⟨h, _⟩ | ⟨_, _, f, ps, hf, rfl, rfl, rfl, hpo⟩
  · cases h
  · refine .inr ⟨rfl, ps, rfl, rfl, rfl, ?_⟩
    unfold lvlOf
    rw [hpo]
    unfold tailOf
    rw [hr, if_pos rfl]
    simp
theorem LS.big {s : ByteArray} {K : Nat} {err C : Int} {M : List (Int × Int)} (h : LS s K false err C M) (hk : K ≤ s.size) (hs : s.size ≤ 65536) : M.length ≤ 1000000 := by
  rcases h.2 with ⟨h, _⟩ | ⟨_, hl, _⟩
  · cases h
  · omega
/-- One part alone. -/
theorem FS.one {s : ByteArray} (hs0 : signB s 0 mxS = false) {bad2 : Bool} {k2 : Nat} {c2 : Int} {v2 : List (Int × Int)} {err2 : Int} (hp : PT s (spEnd s 0) false 0 bad2 k2 c2 v2 err2) : FS s k2 bad2 err2 c2 v2 := by
  have e1 : signEnd s 0 mxS = spEnd s 0 := by unfold signEnd; rw [hs0, if_neg (by decide)]
  have hb := hp.bd
  have hpo : partsOf s 0 = if (partOf s (spEnd s 0)).ok = false then none else some ([(partOf s (spEnd s 0)).pv], (partOf s (spEnd s 0)).at_) := by
    unfold partsOf; rw [if_pos hs0, e1]
  generalize spEnd s 0 = J at *
  cases ho : (partOf s J).ok with
  | false =>
    rw [ho] at hb hpo
    exact .inl ⟨hb, lvl_none hpo⟩
  | true =>
    rw [ho] at hb hpo
    have hb' : bad2 = false := hb
    obtain ⟨g1, g2, g3, g4⟩ := hp.go hb'
    have hm : accM [(partOf s J).pv] = plV (partOf s J).pv := by
      show raiseAll [] (plV (partOf s J).pv) = _
      have h1 := (plV_ok (partOf s J).pv).1
      match hpv : plV (partOf s J).pv, h1 with
      | [], _ => rfl
      | [x], _ =>
        have h0 := ((plV_ok (partOf s J).pv).2 x (by rw [hpv]; simp)).2.2.1
        rw [raiseAll_mg [x] [] List.Pairwise.nil (List.pairwise_singleton _ _) (fun q hq => by rw [List.mem_singleton.1 hq]; exact h0)]
        simp [mg]
    have hcc : canonC (accC [(partOf s J).pv]) (accM [(partOf s J).pv]) = plC (partOf s J).pv := by
      have h0 := plC_ge (partOf s J).pv
      have ha : accC [(partOf s J).pv] = plC (partOf s J).pv := by
        show max 0 (plC (partOf s J).pv) = _
        omega
      rw [ha, hm]
      unfold plC plV
      split
      · unfold canonC; split <;> rfl
      · split
        · unfold canonC; split <;> rfl
        · rfl
    refine .inr ⟨hb', [(partOf s J).pv], by rw [hcc, g2], by rw [hm, g3], ?_, ?_⟩
    · rw [g4, if_pos rfl]
      show plE _ = if plE _ = 0 then 0 else plE _
      split
      · assumption
      · rfl
    · unfold lvlOf
      rw [hpo, if_neg (by decide), g1]
/-- What a text that does not begin with max( comes to. -/
theorem no_bracket {s : ByteArray} (h : signB s 0 mxS = true) (h2 : tkB s (spEnd s (spEnd s 0 + 3)) 40 = false) : lvlOf s 0 = none := by
  have e1 : signEnd s 0 mxS = spEnd s 0 + 3 := by unfold signEnd; rw [h, if_pos rfl]; rfl
  apply lvl_none
  unfold partsOf
  rw [h, if_neg (by decide), e1, signB_one, h2, if_pos rfl]
theorem with_bracket {s : ByteArray} (h : signB s 0 mxS = true) (h2 : tkB s (spEnd s (spEnd s 0 + 3)) 40 = true) : partsOf s 0 = listOf s (s.size + 1) (spEnd s (spEnd s 0 + 3) + 1) := by
  have e1 : signEnd s 0 mxS = spEnd s 0 + 3 := by unfold signEnd; rw [h, if_pos rfl]; rfl
  unfold partsOf
  rw [h, if_neg (by decide), e1, signB_one, h2, if_neg (by decide), signEnd_yes h2]
end Go.Proofs.YtipnabbdhmapkaaGreatDoor
