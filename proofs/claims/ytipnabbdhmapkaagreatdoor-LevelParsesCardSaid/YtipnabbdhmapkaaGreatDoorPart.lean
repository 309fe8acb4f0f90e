/- The reader of a part of the text of a level. -/
import Derived.Test.YtipnabbdhmapkaaGreatDoorNum
namespace Go.Proofs.YtipnabbdhmapkaaGreatDoor
open Go.RowKit

theorem grown_cell {a w : World} {row : Option Nat} (h : a.grownBy w row) {i : Nat} (o : Nat) (hi : i < a.heap.size) (hne : some i ≠ row) : w.cell? ⟨i, o, none⟩ = a.cell? ⟨i, o, none⟩ := by
  simp [World.cell?, h.block i hi hne]
theorem grown_frozen {a w : World} {row : Option Nat} (h : a.grownBy w row) {i : Nat} (o : Nat) (hi : i < a.heap.size) (hne : some i ≠ row) : w.frozen? ⟨i, o, none⟩ = a.frozen? ⟨i, o, none⟩ := by
  simp [World.frozen?, h.block i hi hne]
theorem hasPrefix_le {l p : List UInt8} (h : Lib.hasPrefix l p = true) : p.length ≤ l.length := by
  unfold Lib.hasPrefix at h
  first
  | exact (List.isPrefixOf_iff_prefix.1 h).length_le
  | (simp at h; exact h.length_le)
theorem signEnd_le {s : ByteArray} {k : Nat} {p : ByteArray} (hk : k ≤ s.size) : signEnd s k p ≤ s.size := by
  unfold signEnd
  have h1 := spEnd_le hk
  split
  · rename_i h
    unfold signB at h
    have h2 := hasPrefix_le h
    have h3 : (s.data.toList.drop (spEnd s k)).length = s.size - spEnd s k := by simp
    have h4 : p.data.toList.length = p.size := by simp
    omega
  · exact h1

abbrev uS : ByteArray := ⟨#[117]⟩
abbrev qS : ByteArray := ⟨#[63]⟩
abbrev plS : ByteArray := ⟨#[43]⟩
/-- The sign of a variable's kind, or nothing, and where the reader stands behind it. -/
def preOf (s : ByteArray) (k : Nat) : ByteArray × Nat :=
  if signB s k uS = true then (uS, signEnd s k uS) else
    if signB s (signEnd s k uS) qS = true then (qS, signEnd s (signEnd s k uS) qS) else (⟨#[]⟩, signEnd s (signEnd s k uS) qS)
structure PartR where
  pre : ByteArray
  num : Int
  plus : Int
  ok : Bool
  at_ : Nat
/-- What part reads from k on. -/
def partOf (s : ByteArray) (k : Nat) : PartR :=
  let p := (preOf s k).1
  let k1 := (preOf s k).2
  let k2 := digEnd s k1
  if numB (digs s k1) = false then ⟨⟨#[]⟩, 0, 0, false, k2⟩ else
    if p = ⟨#[]⟩ then ⟨p, numV (digs s k1), 0, true, k2⟩ else
      if signB s k2 plS = false then ⟨p, numV (digs s k1), 0, true, signEnd s k2 plS⟩ else
        let k3 := spEnd s (signEnd s k2 plS)
        ⟨p, numV (digs s k1), numV (digs s k3), numB (digs s k3), digEnd s k3⟩

/-- Where part stands: the reader, the result's cell, and the part's cell. -/
structure PSt (w W : World) (b : Nat) (s : ByteArray) (k : Nat) (p : ByteArray) (n pl : Int) : Prop where
  rd : Rd W b s k
  lt : b < w.heap.size
  grown : w.grownBy W (some b)
  size : w.heap.size + 2 ≤ W.heap.size
  res : ∃ x y z, W.heap[w.heap.size]? = some (.cells #[x, y, z] 105 (0, 0))
  val : W.heap[w.heap.size + 1]? = some (.cells #[.string p, .int .i64 n, .int .i64 pl] 105 (0, 0))
namespace PSt
variable {w W W' : World} {b : Nat} {s : ByteArray} {k : Nat} {p : ByteArray} {n pl : Int}
theorem v0 (h : PSt w W b s k p n pl) : W.cell? ⟨w.heap.size + 1, 0, none⟩ = some (.string p) := by simp [World.cell?, h.val]
theorem v1 (h : PSt w W b s k p n pl) : W.cell? ⟨w.heap.size + 1, 1, none⟩ = some (.int .i64 n) := by simp [World.cell?, h.val]
theorem v2 (h : PSt w W b s k p n pl) : W.cell? ⟨w.heap.size + 1, 2, none⟩ = some (.int .i64 pl) := by simp [World.cell?, h.val]
theorem vf (h : PSt w W b s k p n pl) (o : Nat) : W.frozen? ⟨w.heap.size + 1, o, none⟩ = false := by simp [World.frozen?, h.val]
theorem rf (h : PSt w W b s k p n pl) (o : Nat) : W.frozen? ⟨w.heap.size, o, none⟩ = false := by
  obtain ⟨x, y, z, e⟩ := h.res
  simp [World.frozen?, e]
theorem resc (h : PSt w W b s k p n pl) : ∃ x y z, W.cell? ⟨w.heap.size, 0, none⟩ = some x ∧ W.cell? ⟨w.heap.size, 1, none⟩ = some y ∧ W.cell? ⟨w.heap.size, 2, none⟩ = some z := by
  obtain ⟨x, y, z, e⟩ := h.res
  exact ⟨x, y, z, by simp [World.cell?, e], by simp [World.cell?, e], by simp [World.cell?, e]⟩
theorem call (h : PSt w W b s k p n pl) {k' : Nat} (hr : Rd W' b s k') (hg : W.grownBy W' (some b)) : PSt w W' b s k' p n pl :=
  have hlt := h.lt
  have hsz := h.size
  have h0 := hg.block w.heap.size (by omega) (by simp; omega)
  have h1 := hg.block (w.heap.size + 1) (by omega) (by simp; omega)
  ⟨hr, h.lt, grown_trans h.grown hg, Nat.le_trans h.size hg.size, by obtain ⟨x, y, z, e⟩ := h.res; exact ⟨x, y, z, h0.trans e⟩, h1.trans h.val⟩
theorem drewN (h : PSt w W b s k p n pl) (m : Nat) : PSt w (W.drewN m) b s k p n pl := ⟨h.rd.drewN m, h.lt, grown_drewN h.grown m, h.size, h.res, h.val⟩
theorem grown_new {a w : World} {row : Option Nat} (h : a.grownBy w row) {c : Nat} (hc : a.heap.size ≤ c) (o : Nat) (u : Value) : a.grownBy (w.setCell ⟨c, o, none⟩ u) row :=
  ⟨h.os, h.tape, h.output, by simpa [World.setCell] using h.size, fun i hi hne => (Below.heap_setCell w ⟨c, o, none⟩ u i (by show i ≠ c; omega)).trans (h.block i hi hne)⟩
theorem set0 (h : PSt w W b s k p n pl) (q : ByteArray) : PSt w (W.setCell ⟨w.heap.size + 1, 0, none⟩ (.string q)) b s k q n pl :=
  have hlt := h.lt
  ⟨(Below.heap_setCell W ⟨w.heap.size + 1, 0, none⟩ _ b (by show b ≠ w.heap.size + 1; omega)).trans h.rd, h.lt, grown_new h.grown (by omega) _ _, by have := h.size; simpa [World.setCell] using this,
    by obtain ⟨x, y, z, e⟩ := h.res; exact ⟨x, y, z, (Below.heap_setCell W ⟨w.heap.size + 1, 0, none⟩ _ w.heap.size (by show w.heap.size ≠ w.heap.size + 1; omega)).trans e⟩,
    by rw [heap_setCell_same W _ 0 _ _ (.string q) h.val]; rfl⟩
theorem set1 (h : PSt w W b s k p n pl) (q : Int) : PSt w (W.setCell ⟨w.heap.size + 1, 1, none⟩ (.int .i64 q)) b s k p q pl :=
  have hlt := h.lt
  ⟨(Below.heap_setCell W ⟨w.heap.size + 1, 1, none⟩ _ b (by show b ≠ w.heap.size + 1; omega)).trans h.rd, h.lt, grown_new h.grown (by omega) _ _, by have := h.size; simpa [World.setCell] using this,
    by obtain ⟨x, y, z, e⟩ := h.res; exact ⟨x, y, z, (Below.heap_setCell W ⟨w.heap.size + 1, 1, none⟩ _ w.heap.size (by show w.heap.size ≠ w.heap.size + 1; omega)).trans e⟩,
    by rw [heap_setCell_same W _ 1 _ _ (.int .i64 q) h.val]; rfl⟩
theorem set2 (h : PSt w W b s k p n pl) (q : Int) : PSt w (W.setCell ⟨w.heap.size + 1, 2, none⟩ (.int .i64 q)) b s k p n q :=
  have hlt := h.lt
  ⟨(Below.heap_setCell W ⟨w.heap.size + 1, 2, none⟩ _ b (by show b ≠ w.heap.size + 1; omega)).trans h.rd, h.lt, grown_new h.grown (by omega) _ _, by have := h.size; simpa [World.setCell] using this,
    by obtain ⟨x, y, z, e⟩ := h.res; exact ⟨x, y, z, (Below.heap_setCell W ⟨w.heap.size + 1, 2, none⟩ _ w.heap.size (by show w.heap.size ≠ w.heap.size + 1; omega)).trans e⟩,
    by rw [heap_setCell_same W _ 2 _ _ (.int .i64 q) h.val]; rfl⟩
theorem alloc_last (w : World) (o : Obj) (m : Nat) (h : m = w.heap.size) : (w.alloc o).heap[m]? = some o := by
  subst h
  exact Array.getElem?_push_size
theorem alloc_cell (w : World) (cs : Array Value) (T : TypeId) (m o : Nat) (v : Value) (h : m = w.heap.size) (hv : cs[o]? = some v) : (w.alloc (.cells cs T)).cell? ⟨m, o, none⟩ = some v := by
  simp [World.cell?, alloc_last w (.cells cs T) m h, hv]
theorem rset {W : World} (h : Rd W b s k) {c : Nat} (hne : b ≠ c) (o : Nat) (u : Value) : Rd (W.setCell ⟨c, o, none⟩ u) b s k :=
  (Below.heap_setCell W ⟨c, o, none⟩ u b hne).trans h
theorem rd3 (h : PSt w W b s k p n pl) (u0 u1 u2 : Value) : Rd (((W.setCell ⟨w.heap.size, 0, none⟩ u0).setCell ⟨w.heap.size, 1, none⟩ u1).setCell ⟨w.heap.size, 2, none⟩ u2) b s k :=
  have hne : b ≠ w.heap.size := Nat.ne_of_lt h.lt
  rset (rset (rset h.rd hne _ _) hne _ _) hne _ _
theorem gr3 (h : PSt w W b s k p n pl) (u0 u1 u2 : Value) : w.grownBy (((W.setCell ⟨w.heap.size, 0, none⟩ u0).setCell ⟨w.heap.size, 1, none⟩ u1).setCell ⟨w.heap.size, 2, none⟩ u2) (some b) :=
  grown_new (grown_new (grown_new h.grown (Nat.le_refl _) _ _) (Nat.le_refl _) _ _) (Nat.le_refl _) _ _
theorem start {w : World} (h : Rd w b s k) (o : Obj) : PSt w (((w.alloc (.cells #[.string ⟨#[]⟩, .int .i64 0, .int .i64 0] 105)).alloc (.cells #[.string ⟨#[]⟩, .int .i64 0, .int .i64 0] 105)).alloc o) b s k ⟨#[]⟩ 0 0 := by
  have hlt := h.lt
  refine ⟨?_, hlt, grown_alloc (grown_alloc (grown_alloc (grown_refl _ _) _) _) _, by simp, ⟨.string ⟨#[]⟩, .int .i64 0, .int .i64 0, ?_⟩, ?_⟩
  · exact (Below.heap_alloc _ _ b (by simp; omega)).trans ((Below.heap_alloc _ _ b (by simp; omega)).trans ((Below.heap_alloc _ _ b (by omega)).trans h))
  · exact (Below.heap_alloc _ _ _ (by simp; omega)).trans ((Below.heap_alloc _ _ _ (by simp)).trans (alloc_last _ _ _ rfl))
  · exact (Below.heap_alloc _ _ _ (by simp)).trans (alloc_last _ _ _ (by simp))
end PSt

theorem partOf_fail {s : ByteArray} {k K : Nat} {P : ByteArray} (hp : preOf s k = (P, K)) (hn : numB (digs s K) = false) : partOf s k = ⟨⟨#[]⟩, 0, 0, false, digEnd s K⟩ := by
  simp [partOf, hp, hn]
theorem partOf_const {s : ByteArray} {k K : Nat} (hp : preOf s k = (⟨#[]⟩, K)) (hn : numB (digs s K) = true) : partOf s k = ⟨⟨#[]⟩, numV (digs s K), 0, true, digEnd s K⟩ := by
  simp [partOf, hp, hn]
theorem partOf_bare {s : ByteArray} {k K : Nat} {P : ByteArray} (hp : preOf s k = (P, K)) (hne : P ≠ ⟨#[]⟩) (hn : numB (digs s K) = true) (hs : signB s (digEnd s K) plS = false) : partOf s k = ⟨P, numV (digs s K), 0, true, signEnd s (digEnd s K) plS⟩ := by
  simp [partOf, hp, hn, hne, hs]
theorem partOf_plus {s : ByteArray} {k K : Nat} {P : ByteArray} (hp : preOf s k = (P, K)) (hne : P ≠ ⟨#[]⟩) (hn : numB (digs s K) = true) (hs : signB s (digEnd s K) plS = true) : partOf s k = ⟨P, numV (digs s K), numV (digs s (spEnd s (signEnd s (digEnd s K) plS))), numB (digs s (spEnd s (signEnd s (digEnd s K) plS))), digEnd s (spEnd s (signEnd s (digEnd s K) plS))⟩ := by
  simp [partOf, hp, hn, hne, hs]


set_option maxRecDepth 100000 in
set_option maxHeartbeats 2000000 in
theorem part_rd (b : Nat) (s : ByteArray) (k0 : Nat) (w : World) (hr : Rd w b s k0) (hk0 : k0 ≤ s.size) (hs : s.size ≤ 65536) :
    Calls Tryz.prog 98 #[.pointer (some ⟨b, 0, none⟩)] w fun e w' => e = .returned (.tuple #[.agg #[.string (partOf s k0).pre, .int .i64 (partOf s k0).num, .int .i64 (partOf s k0).plus], .bool (partOf s k0).ok]) ∧ Rd w' b s (partOf s k0).at_ ∧ w.grownBy w' (some b) := by
  go_enter Tryz.func98, Tryz.ntmps98
  go_wp2_with fail
  have hp0 := PSt.start hr (.cells #[.string uS, .string qS] 9)
  have hs0 : w.heap.size + 1 + 1 < (((w.alloc (.cells #[.string ⟨#[]⟩, .int .i64 0, .int .i64 0] 105)).alloc (.cells #[.string ⟨#[]⟩, .int .i64 0, .int .i64 0] 105)).alloc (.cells #[.string uS, .string qS] 9)).heap.size := by simp
  have hc0 : (((w.alloc (.cells #[.string ⟨#[]⟩, .int .i64 0, .int .i64 0] 105)).alloc (.cells #[.string ⟨#[]⟩, .int .i64 0, .int .i64 0] 105)).alloc (.cells #[.string uS, .string qS] 9)).cell? ⟨w.heap.size + 1 + 1, 0, none⟩ = some (.string uS) := PSt.alloc_cell _ _ _ _ _ _ (by simp) rfl
  have hc1 : (((w.alloc (.cells #[.string ⟨#[]⟩, .int .i64 0, .int .i64 0] 105)).alloc (.cells #[.string ⟨#[]⟩, .int .i64 0, .int .i64 0] 105)).alloc (.cells #[.string uS, .string qS] 9)).cell? ⟨w.heap.size + 1 + 1, 1, none⟩ = some (.string qS) := PSt.alloc_cell _ _ _ _ _ _ (by simp) rfl
  generalize (((w.alloc (.cells #[.string ⟨#[]⟩, .int .i64 0, .int .i64 0] 105)).alloc (.cells #[.string ⟨#[]⟩, .int .i64 0, .int .i64 0] 105)).alloc (.cells #[.string uS, .string qS] 9)) = W0 at *
  have hlt := hr.lt
  have HR := Lib.hid hr
  clear hr
  have HP0 := Lib.hid hp0
  clear hp0
  go_loopw [10] (fun i wr => ((i = .int .i64 0 ∧ Rd wr b s k0) ∨ (i = .int .i64 1 ∧ signB s k0 uS = false ∧ Rd wr b s (signEnd s k0 uS)) ∨ (i = .int .i64 2 ∧ signB s k0 uS = false ∧ signB s (signEnd s k0 uS) qS = false ∧ Rd wr b s (signEnd s (signEnd s k0 uS) qS))) ∧ W0.grownBy wr (some b)) (fun i _ => 2 - (intOf i).toNat)
  case atStart => exact ⟨.inl ⟨rfl, HP0.out.rd⟩, grown_refl _ _⟩
  case round =>
    obtain ⟨hcase, hg⟩ := hrel
    have hc0r := (grown_cell hg 0 hs0 (by simp; omega)).trans hc0
    have hc1r := (grown_cell hg 1 hs0 (by simp; omega)).trans hc1
    rcases hcase with ⟨rfl, hrd⟩ | ⟨rfl, hu, hrd⟩ | ⟨rfl, hu, hq, hrd⟩
    · have HP := Lib.hid (HP0.out.call hrd hg)
      have hsg := Lib.hid (sign_any b s uS k0 wr hrd hk0 hs (by decide))
      clear hrd
      cases hu : signB s k0 uS with
      | true =>
        simp only [hu] at hsg
        go_wp2_with fail
        refine hsg.out.mono ?_
        rintro e w1 ⟨rfl, hr1, hg1⟩
        have HP1 := Lib.hid (HP.out.call hr1 hg1)
        have f0 := HP1.out.vf
        have f1 := HP1.out.v0
        clear hr1
        have hK : signEnd s k0 uS ≤ s.size := signEnd_le hk0
        have hpre : Hid (preOf s k0 = (uS, signEnd s k0 uS)) := Lib.hid (by rw [preOf, if_pos hu])
        go_wp2_with fail
        have HP2 := Lib.hid (HP1.out.set0 uS)
        clear HP HP1 f0 f1
        generalize signEnd s k0 uS = K at *
        refine (number_rd b s K _ HP2.out.rd hK hs).mono ?_
        rintro e w2 ⟨rfl, hr2, hg2⟩
        have HP3 := Lib.hid (HP2.out.call hr2 hg2)
        have f2 := HP3.out.vf
        have f21 := HP3.out.v1
        have f20 := HP3.out.v0
        have f22 := HP3.out.v2
        have f23 := HP3.out.rf
        obtain ⟨rx, ry, rz, f24, f25, f26⟩ := HP3.out.resc
        clear hr2
        cases hn : numB (digs s K) with
        | false =>
          have hspec := Lib.hid (partOf_fail hpre.out hn)
          have HP4 := Lib.hid (HP3.out.set1 (numV (digs s K)))
          go_wp2_with fail
          rw [hspec.out]
          exact bodyPost_ret (v := .tuple #[.agg #[.string ⟨#[]⟩, .int .i64 0, .int .i64 0], .bool false]) (by simp [results, Tryz.results98, go_sem, f24, f25, f26]) rfl ⟨rfl, HP4.out.rd3 _ _ _, HP4.out.gr3 _ _ _⟩
        | true =>
          have hK2 : digEnd s K ≤ s.size := digEnd_le hK
          have HP4 := Lib.hid (HP3.out.set1 (numV (digs s K)))
          have hsg2 := Lib.hid (sign_any b s plS (digEnd s K) _ HP4.out.rd hK2 hs (by decide))
          cases hpl : signB s (digEnd s K) plS with
          | false =>
            have hspec := Lib.hid (partOf_bare hpre.out (by decide) hn hpl)
            simp only [hpl] at hsg2
            go_wp2_with fail
            refine hsg2.out.mono ?_
            rintro e w5 ⟨rfl, hr5, hg5⟩
            have HP5 := Lib.hid (HP4.out.call hr5 hg5)
            have q0 := HP5.out.v0
            have q1 := HP5.out.v1
            have q2 := HP5.out.v2
            have q3 := HP5.out.rf
            obtain ⟨sx, sy, sz, q4, q5, q6⟩ := HP5.out.resc
            clear hr5
            go_wp2_with fail
            rw [hspec.out]
            exact bodyPost_ret (v := .tuple #[.agg #[.string uS, .int .i64 (numV (digs s K)), .int .i64 0], .bool true]) (by simp [results, Tryz.results98, go_sem, q4, q5, q6]) rfl ⟨rfl, HP5.out.rd3 _ _ _, HP5.out.gr3 _ _ _⟩
          | true =>
            have hspec := Lib.hid (partOf_plus hpre.out (by decide) hn hpl)
            have hK3 : signEnd s (digEnd s K) plS ≤ s.size := signEnd_le hK2
            have hK4 : spEnd s (signEnd s (digEnd s K) plS) ≤ s.size := spEnd_le hK3
            simp only [hpl] at hsg2
            go_wp2_with fail
            refine hsg2.out.mono ?_
            rintro e w5 ⟨rfl, hr5, hg5⟩
            have HP5 := Lib.hid (HP4.out.call hr5 hg5)
            have q0 := HP5.out.v0
            clear hr5
            go_wp2_with fail
            refine (spaces_any b s _ _ HP5.out.rd hK3 hs).mono ?_
            rintro e w6 ⟨rfl, hr6, hg6⟩
            have HP6 := Lib.hid (HP5.out.call hr6 hg6)
            clear hr6 q0
            go_wp2_with fail
            refine (number_rd b s _ _ HP6.out.rd hK4 hs).mono ?_
            rintro e w7 ⟨rfl, hr7, hg7⟩
            have HP7 := Lib.hid (HP6.out.call hr7 hg7)
            have HP8 := Lib.hid (HP7.out.set2 (numV (digs s (spEnd s (signEnd s (digEnd s K) plS)))))
            have q0 := HP7.out.v0
            have q1 := HP7.out.v1
            have q2 := HP7.out.v2
            have q7 := HP7.out.vf
            have q3 := HP7.out.rf
            obtain ⟨sx, sy, sz, q4, q5, q6⟩ := HP7.out.resc
            clear hr7
            go_wp2_with fail
            rw [hspec.out]
            exact bodyPost_ret (v := .tuple #[.agg #[.string uS, .int .i64 (numV (digs s K)), .int .i64 (numV (digs s (spEnd s (signEnd s (digEnd s K) plS))))], .bool (numB (digs s (spEnd s (signEnd s (digEnd s K) plS))))]) (by simp [results, Tryz.results98, go_sem, q4, q5, q6]) rfl ⟨rfl, HP8.out.rd3 _ _ _, HP8.out.gr3 _ _ _⟩
      | false =>
        simp only [hu] at hsg
        go_wp2_with fail
        refine hsg.out.mono ?_
        rintro e w1 ⟨rfl, hr1, hg1⟩
        have HX := Lib.hid (And.intro hr1 (grown_trans hg hg1))
        clear hr1
        go_wp2
        go_roundw
        case rel => exact ⟨.inr (.inl ⟨rfl, by first | trivial | rfl | assumption, HX.out.1⟩), HX.out.2⟩
        case measure => simp [intOf]
    · have hK1 : signEnd s k0 uS ≤ s.size := signEnd_le hk0
      have HP := Lib.hid (HP0.out.call hrd hg)
      have hsg := Lib.hid (sign_any b s qS (signEnd s k0 uS) wr hrd hK1 hs (by decide))
      clear hrd
      cases hq : signB s (signEnd s k0 uS) qS with
      | true =>
        simp only [hq] at hsg
        go_wp2_with fail
        refine hsg.out.mono ?_
        rintro e w1 ⟨rfl, hr1, hg1⟩
        have HP1 := Lib.hid (HP.out.call hr1 hg1)
        have f0 := HP1.out.vf
        have f1 := HP1.out.v0
        clear hr1
        have hK : signEnd s (signEnd s k0 uS) qS ≤ s.size := signEnd_le hK1
        have hpre : Hid (preOf s k0 = (qS, signEnd s (signEnd s k0 uS) qS)) := Lib.hid (by rw [preOf, if_neg (by simp [hu]), if_pos hq])
        go_wp2_with fail
        have HP2 := Lib.hid (HP1.out.set0 qS)
        clear HP HP1 f0 f1
        generalize signEnd s (signEnd s k0 uS) qS = K at *
        refine (number_rd b s K _ HP2.out.rd hK hs).mono ?_
        rintro e w2 ⟨rfl, hr2, hg2⟩
        have HP3 := Lib.hid (HP2.out.call hr2 hg2)
        have f2 := HP3.out.vf
        have f21 := HP3.out.v1
        have f20 := HP3.out.v0
        have f22 := HP3.out.v2
        have f23 := HP3.out.rf
        obtain ⟨rx, ry, rz, f24, f25, f26⟩ := HP3.out.resc
        clear hr2
        cases hn : numB (digs s K) with
        | false =>
          have hspec := Lib.hid (partOf_fail hpre.out hn)
          have HP4 := Lib.hid (HP3.out.set1 (numV (digs s K)))
          go_wp2_with fail
          rw [hspec.out]
          exact bodyPost_ret (v := .tuple #[.agg #[.string ⟨#[]⟩, .int .i64 0, .int .i64 0], .bool false]) (by simp [results, Tryz.results98, go_sem, f24, f25, f26]) rfl ⟨rfl, HP4.out.rd3 _ _ _, HP4.out.gr3 _ _ _⟩
        | true =>
          have hK2 : digEnd s K ≤ s.size := digEnd_le hK
          have HP4 := Lib.hid (HP3.out.set1 (numV (digs s K)))
          have hsg2 := Lib.hid (sign_any b s plS (digEnd s K) _ HP4.out.rd hK2 hs (by decide))
          cases hpl : signB s (digEnd s K) plS with
          | false =>
            have hspec := Lib.hid (partOf_bare hpre.out (by decide) hn hpl)
            simp only [hpl] at hsg2
            go_wp2_with fail
            refine hsg2.out.mono ?_
            rintro e w5 ⟨rfl, hr5, hg5⟩
            have HP5 := Lib.hid (HP4.out.call hr5 hg5)
            have q0 := HP5.out.v0
            have q1 := HP5.out.v1
            have q2 := HP5.out.v2
            have q3 := HP5.out.rf
            obtain ⟨sx, sy, sz, q4, q5, q6⟩ := HP5.out.resc
            clear hr5
            go_wp2_with fail
            rw [hspec.out]
            exact bodyPost_ret (v := .tuple #[.agg #[.string qS, .int .i64 (numV (digs s K)), .int .i64 0], .bool true]) (by simp [results, Tryz.results98, go_sem, q4, q5, q6]) rfl ⟨rfl, HP5.out.rd3 _ _ _, HP5.out.gr3 _ _ _⟩
          | true =>
            have hspec := Lib.hid (partOf_plus hpre.out (by decide) hn hpl)
            have hK3 : signEnd s (digEnd s K) plS ≤ s.size := signEnd_le hK2
            have hK4 : spEnd s (signEnd s (digEnd s K) plS) ≤ s.size := spEnd_le hK3
            simp only [hpl] at hsg2
            go_wp2_with fail
            refine hsg2.out.mono ?_
            rintro e w5 ⟨rfl, hr5, hg5⟩
            have HP5 := Lib.hid (HP4.out.call hr5 hg5)
            have q0 := HP5.out.v0
            clear hr5
            go_wp2_with fail
            refine (spaces_any b s _ _ HP5.out.rd hK3 hs).mono ?_
            rintro e w6 ⟨rfl, hr6, hg6⟩
            have HP6 := Lib.hid (HP5.out.call hr6 hg6)
            clear hr6 q0
            go_wp2_with fail
            refine (number_rd b s _ _ HP6.out.rd hK4 hs).mono ?_
            rintro e w7 ⟨rfl, hr7, hg7⟩
            have HP7 := Lib.hid (HP6.out.call hr7 hg7)
            have HP8 := Lib.hid (HP7.out.set2 (numV (digs s (spEnd s (signEnd s (digEnd s K) plS)))))
            have q0 := HP7.out.v0
            have q1 := HP7.out.v1
            have q2 := HP7.out.v2
            have q7 := HP7.out.vf
            have q3 := HP7.out.rf
            obtain ⟨sx, sy, sz, q4, q5, q6⟩ := HP7.out.resc
            clear hr7
            go_wp2_with fail
            rw [hspec.out]
            exact bodyPost_ret (v := .tuple #[.agg #[.string qS, .int .i64 (numV (digs s K)), .int .i64 (numV (digs s (spEnd s (signEnd s (digEnd s K) plS))))], .bool (numB (digs s (spEnd s (signEnd s (digEnd s K) plS))))]) (by simp [results, Tryz.results98, go_sem, q4, q5, q6]) rfl ⟨rfl, HP8.out.rd3 _ _ _, HP8.out.gr3 _ _ _⟩
      | false =>
        simp only [hq] at hsg
        go_wp2_with fail
        refine hsg.out.mono ?_
        rintro e w1 ⟨rfl, hr1, hg1⟩
        have HX := Lib.hid (And.intro hr1 (grown_trans hg hg1))
        clear hr1
        go_wp2
        go_roundw
        case rel => exact ⟨.inr (.inr ⟨rfl, by first | trivial | rfl | assumption, by first | trivial | rfl | assumption, HX.out.1⟩), HX.out.2⟩
        case measure => simp [intOf]
    · have hK1 : signEnd s k0 uS ≤ s.size := signEnd_le hk0
      have hK : signEnd s (signEnd s k0 uS) qS ≤ s.size := signEnd_le hK1
      have hpre : Hid (preOf s k0 = (⟨#[]⟩, signEnd s (signEnd s k0 uS) qS)) := Lib.hid (by rw [preOf, if_neg (by simp [hu]), if_neg (by simp [hq])])
      have HP2 := Lib.hid (HP0.out.call hrd hg)
      clear hrd
      generalize signEnd s (signEnd s k0 uS) qS = K at *
      go_wp2_with fail
      refine (number_rd b s K _ HP2.out.rd hK hs).mono ?_
      rintro e w2 ⟨rfl, hr2, hg2⟩
      have HP3 := Lib.hid (HP2.out.call hr2 hg2)
      have f2 := HP3.out.vf
      have f21 := HP3.out.v1
      have f20 := HP3.out.v0
      have f22 := HP3.out.v2
      have f23 := HP3.out.rf
      obtain ⟨rx, ry, rz, f24, f25, f26⟩ := HP3.out.resc
      clear hr2
      cases hn : numB (digs s K) with
      | false =>
        have hspec := Lib.hid (partOf_fail hpre.out hn)
        have HP4 := Lib.hid (HP3.out.set1 (numV (digs s K)))
        go_wp2_with fail
        rw [hspec.out]
        exact bodyPost_ret (v := .tuple #[.agg #[.string ⟨#[]⟩, .int .i64 0, .int .i64 0], .bool false]) (by simp [results, Tryz.results98, go_sem, f24, f25, f26]) rfl ⟨rfl, HP4.out.rd3 _ _ _, HP4.out.gr3 _ _ _⟩
      | true =>
        have hspec := Lib.hid (partOf_const hpre.out hn)
        have HP4 := Lib.hid (HP3.out.set1 (numV (digs s K)))
        go_wp2_with fail
        rw [hspec.out]
        exact bodyPost_ret (v := .tuple #[.agg #[.string ⟨#[]⟩, .int .i64 (numV (digs s K)), .int .i64 0], .bool true]) (by simp [results, Tryz.results98, go_sem, f24, f25, f26]) rfl ⟨rfl, HP4.out.rd3 _ _ _, HP4.out.gr3 _ _ _⟩
end Go.Proofs.YtipnabbdhmapkaaGreatDoor
