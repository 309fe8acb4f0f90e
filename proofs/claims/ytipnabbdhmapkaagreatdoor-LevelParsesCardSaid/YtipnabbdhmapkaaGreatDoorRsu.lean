/- Subst and Assign of the reference. -/
import Derived.Test.YtipnabbdhmapkaaGreatDoorSub
import Derived.Test.YtipnabbdhmapkaaGreatDoorAwk
import Derived.Test.YtipnabbdhmapkaaGreatDoorRpl
import Derived.Test.YtipnabbdhmapkaaGreatDoorRjn
namespace Go.Proofs.YtipnabbdhmapkaaGreatDoor
open Go.RowKit

/-! Subst and Assign of the reference. -/

set_option maxRecDepth 100000 in
set_option maxHeartbeats 1000000 in
theorem rallValid_any (P : Option Addr) (capp : Nat) (ls : List LvD) (B : Nat) (w : World) (hl : LL w B P ls) (hB : B ≤ w.heap.size) :
    Calls Tryz.prog 61 #[.slice P ls.length capp] w fun e w' => e = .returned (.bool (ls.all LvD.ok)) ∧ Below w.heap.size w w' := by
  have hlen := hl.len
  go_enter Tryz.func61, Tryz.ntmps61
  go_wp2_with fail
  go_loopw [3] (fun i wr => ∃ k : Nat, k ≤ ls.length ∧ i = .int .i64 k ∧ Hid ((ls.take k).all LvD.ok = true) ∧ Below w.heap.size w wr) (fun i _ => ls.length - (intOf i).toNat)
  case atStart => exact ⟨0, Nat.zero_le _, rfl, Lib.hid rfl, Below.refl _ _⟩
  case round =>
    obtain ⟨k, hk, rfl, hok, hbw⟩ := hrel
    have hszr := hbw.size
    by_cases hlk : k < ls.length
    · obtain ⟨l, hkl⟩ : ∃ l, ls[k]? = some l := ⟨_, List.getElem?_eq_getElem hlk⟩
      have hlw := hl.below hbw hB
      obtain ⟨b, off, rfl, hb, hc0, hc1⟩ := hlw.at_ hkl
      have HV := Lib.hid (hlw.2 l (List.mem_of_getElem? hkl))
      have hbl : b < wr.heap.size := by omega
      have HT := Lib.hid (show (ls.take (k + 1)).all LvD.ok = ((ls.take k).all LvD.ok && l.ok) by rw [List.take_add_one, hkl, Option.toList_some, List.all_append]; simp)
      have HM := Lib.hid (List.mem_of_getElem? hkl)
      clear hkl hlw
      go_wp2_with fail
      refine (rvalid_any l.c l.A l.cap l.vs B _ HV.out (by omega)).mono ?_
      rintro e w2 ⟨rfl, hb2⟩
      have HB := Lib.hid (hbw.trans (hb2.mono hszr))
      clear hb2
      have HO := Lib.hid (show l.ok = vldB l.c l.vs from rfl)
      cases hvl : vldB l.c l.vs with
      | false =>
        have HE := Lib.hid (show ls.all LvD.ok = false by
          rw [List.all_eq_false]
          exact ⟨l, HM.out, by rw [HO.out, hvl]; decide⟩)
        clear hvl
        go_wp2_with fail
        go_ret
        exact ⟨ret_bool HE.out.symm, HB.out⟩
      | true =>
        have HE := Lib.hid (show (ls.take (k + 1)).all LvD.ok = true by rw [HT.out, hok.out, HO.out, hvl]; rfl)
        clear hvl
        go_wp2_with fail
        go_roundw
        case rel => exact ⟨k + 1, hlk, by go_num, HE, HB.out⟩
        case measure => simp [intOf]; omega
    · obtain rfl : k = ls.length := by omega
      rw [List.take_length] at hok
      go_wp2_with fail
      go_ret
      exact ⟨ret_bool hok.out.symm, hbw⟩

/-- Block ob holds the level (o, M). -/
structure RO (w : World) (ob : Nat) (o : Int) (A : Option Addr) (cap : Nat) (M : List (Int × Int)) : Prop where
  cell : w.heap[ob]? = some (.cells #[.int .i64 o, .slice A M.length cap] 24 (0, 0))
  va : VA w w.heap.size A M
namespace RO
variable {w w' : World} {ob cap : Nat} {o : Int} {A : Option Addr} {M : List (Int × Int)}
theorem lt (h : RO w ob o A cap M) : ob < w.heap.size := (Array.getElem?_eq_some_iff.1 h.cell).1
theorem c0 (h : RO w ob o A cap M) : w.cell? ⟨ob, 0, none⟩ = some (.int .i64 o) := by simp [World.cell?, h.cell]
theorem c1 (h : RO w ob o A cap M) : w.cell? ⟨ob, 1, none⟩ = some (.slice A M.length cap) := by simp [World.cell?, h.cell]
theorem fr (h : RO w ob o A cap M) (i : Nat) : w.frozen? ⟨ob, i, none⟩ = false := by simp [World.frozen?, h.cell]
theorem below (h : RO w ob o A cap M) (hb : Below w.heap.size w w') : RO w' ob o A cap M := ⟨(hb.block ob h.lt).trans h.cell, h.va.next0 hb⟩
/-- The join is stored. -/
theorem store (h : RO w ob o A cap M) {o' : Int} {A' : Option Addr} {cap' : Nat} {M' : List (Int × Int)} (hv : VA w w.heap.size A' M') (hf : ∀ b off, 0 < M'.length → A' = some ⟨b, off, none⟩ → b ≠ ob) :
    RO ((w.setCell ⟨ob, 0, none⟩ (.int .i64 o')).setCell ⟨ob, 1, none⟩ (.slice A' M'.length cap')) ob o' A' cap' M' := by
  refine ⟨?_, ?_⟩
  · have h1 := heap_setCell_same w ob 0 _ _ (.int .i64 o') h.cell
    have h2 := heap_setCell_same (w.setCell ⟨ob, 0, none⟩ (.int .i64 o')) ob 1 _ _ (.slice A' M'.length cap') h1
    rw [h2]
    rfl
  · have h2 := (hv.setCell (p := ⟨ob, 0, none⟩) hf (.int .i64 o')).setCell (p := ⟨ob, 1, none⟩) hf (.slice A' M'.length cap')
    simpa [World.setCell] using h2
end RO
theorem VA.set2 {w : World} {A : Option Addr} {vs : List (Int × Int)} (h : VA w w.heap.size A vs) {q n k : Nat} {u : Value} {a : Option Addr} {t : TypeId} {m : Nat × Nat} (hq : w.heap[q]? = some (.cells #[u, .slice a n k] t m)) (u0 u1 : Value) :
    VA ((w.setCell ⟨q, 0, none⟩ u0).setCell ⟨q, 1, none⟩ u1) ((w.setCell ⟨q, 0, none⟩ u0).setCell ⟨q, 1, none⟩ u1).heap.size A vs := by
  have hne := h.ne_lv hq
  have h2 := (h.setCell (p := ⟨q, 0, none⟩) hne u0).setCell (p := ⟨q, 1, none⟩) hne u1
  simpa [World.setCell] using h2
theorem RO.other {w : World} {ob cap : Nat} {o : Int} {A : Option Addr} {M : List (Int × Int)} (h : RO w ob o A cap M) {q n k : Nat} {u : Value} {a : Option Addr} {t : TypeId} {m : Nat × Nat} (hq : w.heap[q]? = some (.cells #[u, .slice a n k] t m)) (hne : ob ≠ q) (u0 u1 : Value) :
    RO ((w.setCell ⟨q, 0, none⟩ u0).setCell ⟨q, 1, none⟩ u1) ob o A cap M :=
  ⟨(Below.heap_setCell _ ⟨q, 1, none⟩ _ ob hne).trans ((Below.heap_setCell w ⟨q, 0, none⟩ _ ob hne).trans h.cell), h.va.set2 hq u0 u1⟩
theorem lv_c0 {w : World} {b n k : Nat} {c : Int} {A : Option Addr} (h : w.heap[b]? = some (.cells #[.int .i64 c, .slice A n k] 24 (0, 0))) : w.cell? ⟨b, 0, none⟩ = some (.int .i64 c) := by simp [World.cell?, h]
theorem lv_c1 {w : World} {b n k : Nat} {c : Int} {A : Option Addr} (h : w.heap[b]? = some (.cells #[.int .i64 c, .slice A n k] 24 (0, 0))) : w.cell? ⟨b, 1, none⟩ = some (.slice A n k) := by simp [World.cell?, h]
theorem lv_fr {w : World} {b n k : Nat} {c : Int} {A : Option Addr} (h : w.heap[b]? = some (.cells #[.int .i64 c, .slice A n k] 24 (0, 0))) (o : Nat) : w.frozen? ⟨b, o, none⟩ = false := by simp [World.frozen?, h]
theorem lv_set2 {w : World} {q : Nat} {u0 u1 a b : Value} (h : w.heap[q]? = some (.cells #[u0, u1] 24 (0, 0))) : ((w.setCell ⟨q, 0, none⟩ a).setCell ⟨q, 1, none⟩ b).heap[q]? = some (.cells #[a, b] 24 (0, 0)) := by
  have h1 := heap_setCell_same w q 0 _ _ a h
  have h2 := heap_setCell_same (w.setCell ⟨q, 0, none⟩ a) q 1 _ _ b h1
  rw [h2]
  rfl
theorem canon_nonneg {m : Int} (h : 0 ≤ m) (vs : List (Int × Int)) : 0 ≤ canonC m vs := by
  unfold canonC
  split
  · exact Int.le_refl _
  · exact h
theorem va_pair {w : World} {b : Nat} {x y : Int} (h0 : w.cell? ⟨b, 0, none⟩ = some (.int .i64 x)) (h1 : w.cell? ⟨b, 1, none⟩ = some (.int .i64 y)) (hb : b < w.heap.size) : VA w w.heap.size (some ⟨b, 0, none⟩) [(x, y)] := VA.one h0 h1 hb

set_option maxRecDepth 100000 in
set_option maxHeartbeats 8000000 in
theorem rreplaceS_any (c : Int) (A : Option Addr) (cap : Nat) (vs : List (Int × Int)) (P : Option Addr) (capp : Nat) (ls : List LvD) (B : Nat) (w : World) (hv : VA w B A vs) (hll : LL w B P ls) (hB : B ≤ w.heap.size) (hvd : vldB c vs = true) (hl : vs.length ≤ 100) (hln : ∀ l ∈ ls, l.vs.length ≤ 100) :
    Calls Tryz.prog 62 #[.agg #[.int .i64 c, .slice A vs.length cap], .slice P ls.length capp, .bool false] w
      (GivesLv (rrepR (valS ls) vs c []).1.1 (rrepR (valS ls) vs c []).1.2 (rrepR (valS ls) vs c []).2 w) := by
  go_enter Tryz.func62, Tryz.ntmps62
  have hq := Lib.hid (show ((w.alloc (.cells #[.int .i64 c, .slice A vs.length cap] 24)).alloc (.cells #[.int .i64 0, .slice none 0 0] 24)).heap[w.heap.size + 1]? = some (.cells #[.int .i64 0, .slice none 0 0] 24 (0, 0)) from PSt.alloc_last _ _ _ (by simp))
  have hb1 := Lib.hid (show Below w.heap.size w ((w.alloc (.cells #[.int .i64 c, .slice A vs.length cap] 24)).alloc (.cells #[.int .i64 0, .slice none 0 0] 24)) from ((Below.refl _ _).alloc (Nat.le_refl _) _).alloc (by simp) _)
  have hx1 := Lib.hid (show ((w.alloc (.cells #[.int .i64 c, .slice A vs.length cap] 24)).alloc (.cells #[.int .i64 0, .slice none 0 0] 24)).cell? ⟨w.heap.size, 1, none⟩ = some (.slice A vs.length cap) by go_simp)
  go_wp2_with fail
  refine (number_any c _).mono ?_
  rintro e w4 ⟨rfl, hb4⟩
  have hs4 := hb4.size
  simp only [World.size_alloc] at hs4
  have l1 := (hb4.cell (p := ⟨w.heap.size, 1, none⟩) (by simp; omega)).trans hx1.out
  have hqq := (hb4.block (w.heap.size + 1) (by simp)).trans hq.out
  have hbw4 := hb1.out.trans (hb4.mono (by simp; omega))
  have HC4 := Lib.hid (And.intro l1 (And.intro hqq hbw4))
  clear hb4 hqq hbw4 hb1 hq hx1 l1
  have hlt0 : w.heap.size < w4.heap.size := by omega
  have hR0 := Lib.hid (show RO (w4.alloc (.cells #[.int .i64 c, .slice none 0 0] 24)) w4.heap.size c none 0 [] from ⟨PSt.alloc_last _ _ _ rfl, VA.nil⟩)
  have hB0 := Lib.hid (show Below (w.heap.size + 1 + 1) w4 (w4.alloc (.cells #[.int .i64 c, .slice none 0 0] 24)) from (Below.refl _ _).alloc (by omega) _)
  have hres : Hid (∀ W, Below (w.heap.size + 1 + 1) w4 W → (W.cell? ⟨w.heap.size + 1, 0, none⟩ = some (.int .i64 0) ∧ W.cell? ⟨w.heap.size + 1, 1, none⟩ = some (.slice none 0 0) ∧ (∀ o, W.frozen? ⟨w.heap.size + 1, o, none⟩ = false)) ∧ W.cell? ⟨w.heap.size, 1, none⟩ = some (.slice A vs.length cap) ∧ Below w.heap.size w W) := Lib.hid (fun W h => by
    have e := (h.block (w.heap.size + 1) (by omega)).trans HC4.out.2.1
    exact ⟨⟨by simp [World.cell?, e], by simp [World.cell?, e], fun o => by simp [World.frozen?, e]⟩, (h.cell (p := ⟨w.heap.size, 1, none⟩) (by show w.heap.size < _; omega)).trans HC4.out.1, HC4.out.2.2.trans (h.mono (by omega))⟩)
  have HV := Lib.hid hv
  have HL := Lib.hid hll
  have HLN := Lib.hid hln
  have HD := Lib.hid (vld_in hvd)
  have hcn := (vldB_parts hvd).1.1
  have hlsl := hll.len
  clear hv hll hvd hln
  go_wp2_with fail
  generalize w4.alloc (.cells #[.int .i64 c, .slice none 0 0] 24) = W0 at *
  go_loopw [9] (fun i wr => ∃ (k : Nat) (M : List (Int × Int)) (o : Int) (Ao : Option Addr) (co : Nat), k ≤ vs.length ∧ i = .int .i64 k ∧ M.length ≤ k * 101 ∧ 0 ≤ o ∧ Hid (rrepR (valS ls) (vs.drop k) o M = rrepR (valS ls) vs c []) ∧ RO wr w4.heap.size o Ao co M ∧ Below (w.heap.size + 1 + 1) w4 wr) (fun i _ => vs.length - (intOf i).toNat)
  case atStart => exact ⟨0, [], c, none, 0, Nat.zero_le _, rfl, Nat.zero_le _, hcn, Lib.hid rfl, hR0.out, hB0.out⟩
  case round =>
    obtain ⟨k, M, o, Ao, co, hk, rfl, hn, ho, hE, hro, hbr⟩ := hrel
    have hol := hro.lt
    have o0 := hro.c0
    have o1 := hro.c1
    have HR := Lib.hid (And.intro hro hbr)
    obtain ⟨⟨r0, r1, rf⟩, l1, hbw⟩ := hres.out _ hbr
    have hsr := hbr.size
    have HBW := Lib.hid hbw
    by_cases hlk : k < vs.length
    · obtain ⟨b, off, x, y, rfl, hb, hg, hc0, hc1, hd0, hd1⟩ := (HV.out.below hbw hB).ata (by have := hbw.size; omega) hlk
      have hmem : (x, y) ∈ vs := List.mem_of_getElem? hg
      have hdr := drop_at hg
      have hxy := HD.out (x, y) hmem
      have hbl : b < wr.heap.size := by have := hbw.size; omega
      have HG := Lib.hid (And.intro hmem hdr)
      clear hmem hdr hg hro hbr hbw
      obtain ⟨⟨hx1, hx2⟩, hy1, hy2⟩ := hxy
      -- the part as it is laid first
      have W2 := Lib.hid (show Below wr.heap.size wr (((wr.alloc (.cells #[.int .i64 x, .int .i64 y] 69)).alloc (.cells #[.int .i64 x, .int .i64 y] 69)).alloc (.cells #[.int .i64 0, .slice (some ⟨wr.heap.size + 1, 0, none⟩) 1 1] 24)) from (((Below.refl _ _).alloc (Nat.le_refl _) _).alloc (by simp) _).alloc (by simp; omega) _)
      have VP := Lib.hid (show VA (((wr.alloc (.cells #[.int .i64 x, .int .i64 y] 69)).alloc (.cells #[.int .i64 x, .int .i64 y] 69)).alloc (.cells #[.int .i64 0, .slice (some ⟨wr.heap.size + 1, 0, none⟩) 1 1] 24)) (((wr.alloc (.cells #[.int .i64 x, .int .i64 y] 69)).alloc (.cells #[.int .i64 x, .int .i64 y] 69)).alloc (.cells #[.int .i64 0, .slice (some ⟨wr.heap.size + 1, 0, none⟩) 1 1] 24)).heap.size (some ⟨wr.heap.size + 1, 0, none⟩) [(x, y)] from va_pair (by go_simp) (by go_simp) (by simp))
      have o0' := (HR.out.1.below W2.out).c0
      have o1' := (HR.out.1.below W2.out).c1
      by_cases hx0 : x < 0
      · have hvx : valS ls x = none := by simp [valS, hx0]
        have HE := Lib.hid (show rrepR (valS ls) (vs.drop (k + 1)) (canonC (mxI o 0) (mg M [(x, y)])) (mg M [(x, y)]) = rrepR (valS ls) vs c [] from by
          rw [← hE.out, HG.out.2]
          simp only [rrepR, hvx])
        have hjn := Lib.hid (rjoin_any o Ao co M 0 (some ⟨wr.heap.size + 1, 0, none⟩) 1 [(x, y)] _ _ ((HR.out.1.below W2.out).va) VP.out (Nat.le_refl _) (by omega) (by simp) ho (Int.le_refl 0) (mxI o 0) rfl)
        have hmlen := mg_length M [(x, y)]
        have BTO := HR.out.2.trans (W2.out.mono (by omega))
        clear hvx
        go_wp2_with fail
        refine hjn.out.mono ?_
        rintro e w7 ⟨A7, cap7, rfl, hv7, hb7, hf7⟩
        have ro7 := (HR.out.1.below W2.out).below hb7
        have f7 := ro7.fr
        have c07 := ro7.c0
        have c17 := ro7.c1
        have hl7 := ro7.lt
        have HST := Lib.hid (ro7.store (o' := canonC (mxI o 0) (mg M [(x, y)])) (cap' := cap7) hv7 (fun b off h e => by have := hf7 b off h e; simp only [World.size_alloc] at this; omega))
        have HBB := Lib.hid ((BTO.trans (hb7.mono (by simp only [World.size_alloc]; omega))).setCell (p := ⟨w4.heap.size, 0, none⟩) (by show w.heap.size + 1 + 1 ≤ w4.heap.size; omega) (.int .i64 (canonC (mxI o 0) (mg M [(x, y)]))))
        have HBC := Lib.hid (HBB.out.setCell (p := ⟨w4.heap.size, 1, none⟩) (by show w.heap.size + 1 + 1 ≤ w4.heap.size; omega) (.slice A7 (mg M [(x, y)]).length cap7))
        clear ro7 hv7 hb7 hf7
        go_wp2_with fail
        go_roundw
        case rel => exact ⟨k + 1, _, _, A7, cap7, hlk, by go_num, by simp only [List.length_cons, List.length_nil] at hmlen; omega, canon_nonneg (by unfold mxI; split <;> omega) _, HE, HST.out, HBC.out⟩
        case measure => simp [intOf]; omega
      · obtain ⟨xn, rfl⟩ : ∃ xn : Nat, x = (xn : Int) := ⟨x.toNat, by omega⟩
        by_cases hxl : xn < ls.length
        · obtain ⟨l, hkl⟩ : ∃ l, ls[xn]? = some l := ⟨_, List.getElem?_eq_getElem hxl⟩
          have hvx : valS ls (xn : Int) = some l := by simp only [valS]; rw [if_neg (by omega)]; simpa using hkl
          have hlm : l ∈ ls := List.mem_of_getElem? hkl
          have HE : Hid (rrepR (valS ls) vs c [] = if plusE l.c l.vs y = 0 then rrepR (valS ls) (vs.drop (k + 1)) (canonC (mxI o (plusC l.c l.vs y)) (mg M (plusV l.c l.vs y))) (mg M (plusV l.c l.vs y)) else ((0, []), plusE l.c l.vs y)) := Lib.hid (by
            rw [← hE.out, HG.out.2]
            simp only [rrepR, hvx])
          have BTO := Lib.hid (HR.out.2.trans (W2.out.mono (by omega)))
          have hlw := (HL.out.below HBW.out hB).below W2.out (by have := HBW.out.size; omega)
          obtain ⟨pb, poff, rfl, hpb, hp0, hp1⟩ := hlw.at_ hkl
          have HVL := Lib.hid (hlw.2 l hlm)
          have HLL := Lib.hid (HLN.out l hlm)
          have hpp := Lib.hid (plus_parts (c := l.c) (vs := l.vs) y)
          have hqp := Lib.hid (show (((wr.alloc (.cells #[.int .i64 (xn : Int), .int .i64 y] 69)).alloc (.cells #[.int .i64 (xn : Int), .int .i64 y] 69)).alloc (.cells #[.int .i64 0, .slice (some ⟨wr.heap.size + 1, 0, none⟩) 1 1] 24)).heap[wr.heap.size + 1 + 1]? = some (.cells #[.int .i64 0, .slice (some ⟨wr.heap.size + 1, 0, none⟩) 1 1] 24 (0, 0)) from PSt.alloc_last _ _ _ (by simp))
          have HX := Lib.hid (And.intro hkl hlm)
          have hxn : (xn : Int) < (ls.length : Int) := by omega
          have hyc : (((wr.alloc (.cells #[.int .i64 (xn : Int), .int .i64 y] 69)).alloc (.cells #[.int .i64 (xn : Int), .int .i64 y] 69)).alloc (.cells #[.int .i64 0, .slice (some ⟨wr.heap.size + 1, 0, none⟩) 1 1] 24)).cell? ⟨wr.heap.size, 1, none⟩ = some (.int .i64 y) := by go_simp
          have HW2 := Lib.hid (show wr.heap.size + 3 = (((wr.alloc (.cells #[.int .i64 (xn : Int), .int .i64 y] 69)).alloc (.cells #[.int .i64 (xn : Int), .int .i64 y] 69)).alloc (.cells #[.int .i64 0, .slice (some ⟨wr.heap.size + 1, 0, none⟩) 1 1] 24)).heap.size by simp)
          have HRO := Lib.hid (HR.out.1.below W2.out)
          have HPL := Lib.hid (fun (W : World) (hW : Below (((wr.alloc (.cells #[.int .i64 (xn : Int), .int .i64 y] 69)).alloc (.cells #[.int .i64 (xn : Int), .int .i64 y] 69)).alloc (.cells #[.int .i64 0, .slice (some ⟨wr.heap.size + 1, 0, none⟩) 1 1] 24)).heap.size (((wr.alloc (.cells #[.int .i64 (xn : Int), .int .i64 y] 69)).alloc (.cells #[.int .i64 (xn : Int), .int .i64 y] 69)).alloc (.cells #[.int .i64 0, .slice (some ⟨wr.heap.size + 1, 0, none⟩) 1 1] 24)) W) => rplus_any l.c l.A l.cap l.vs y B W (HVL.out.below hW (by have := HBW.out.size; simp; omega)) (by have := hW.size; have := HBW.out.size; simp at *; omega) (by have := HLL.out; omega))
          clear hvx hkl hlm hlw W2 VP
          go_wp2_with fail
          generalize (((wr.alloc (.cells #[.int .i64 (xn : Int), .int .i64 y] 69)).alloc (.cells #[.int .i64 (xn : Int), .int .i64 y] 69)).alloc (.cells #[.int .i64 0, .slice (some ⟨wr.heap.size + 1, 0, none⟩) 1 1] 24)) = W2 at *
          have hlw2 : wr.heap.size < W2.heap.size := by have := HW2.out; omega
          have hlp2 : pb < W2.heap.size := by have := HBW.out.size; omega
          generalize plusC l.c l.vs y = pc at *
          generalize plusV l.c l.vs y = pv at *
          generalize plusE l.c l.vs y = pe at *
          have HZ := Lib.hid (fun (w5 : World) (hb : Below ((W2.alloc (.cells #[.int .i64 0, .slice none 0 0] 24)).drew).heap.size ((W2.alloc (.cells #[.int .i64 0, .slice none 0 0] 24)).drew) w5) => (show w5.heap[W2.heap.size]? = some (.cells #[.int .i64 0, .slice none 0 0] 24 (0, 0)) from (hb.block W2.heap.size (by show W2.heap.size < (W2.heap.push _).size; simp)).trans (PSt.alloc_last _ _ _ rfl)))
          go_cut [13, 14] from 50 to 59 (fun s13 s14 wx => ∃ (X : Nat) (A5 : Option Addr) (cap5 : Nat), s13 = .pointer (some ⟨X, 0, none⟩) ∧ s14 = .int .i64 pe ∧ W2.heap.size ≤ X ∧ wx.heap[X]? = some (.cells #[.int .i64 pc, .slice A5 pv.length cap5] 24 (0, 0)) ∧ VA wx wx.heap.size A5 pv ∧ Below W2.heap.size W2 wx)
          case first =>
            go_wp2_with fail
            go_region_law (first
              | (go_simp; go_at_call 23; refine (HPL.out _ ((Below.refl _ _).drew)).mono ?_; rintro e w5 ⟨A5, cap5, rfl, hv5, hb5⟩; have HV5 := Lib.hid hv5; have HB5 := Lib.hid hb5; clear hb5 hv5)
              | (go_simp; go_at_call 23; refine (HPL.out _ (((Below.refl _ _).alloc (Nat.le_refl _) _).drew)).mono ?_; rintro e w5 ⟨A5, cap5, rfl, hv5, hb5⟩; have HV5 := Lib.hid hv5; have HB5 := Lib.hid hb5; have hz5 := HZ.out _ hb5; have z0 := lv_c0 hz5; have z1 := lv_c1 hz5; have zf := lv_fr hz5; have HZ5 := Lib.hid hz5; clear hb5 hv5 hz5))
            all_goals
              go_wp2_with fail
              go_meet
              first
              | exact ⟨w5.heap.size, A5, cap5, rfl, rfl, by simpa using HB5.out.size, PSt.alloc_last _ _ _ rfl, HV5.out.box, ((Below.refl W2.heap.size W2).drew.trans HB5.out).alloc (by simpa using HB5.out.size) _⟩
              | exact ⟨W2.heap.size, A5, cap5, rfl, rfl, Nat.le_refl _, lv_set2 HZ5.out, HV5.out.set2 HZ5.out _ _, ((((Below.refl W2.heap.size W2).alloc (Nat.le_refl _) _).drew.trans (HB5.out.mono (by simp))).setCell (Nat.le_refl _) _).setCell (Nat.le_refl _) _⟩
          case rest =>
            obtain ⟨X, A5, cap5, rfl, rfl, hX, hxc, hvx, hbx⟩ := hcut
            have hsc := hbx.size
            have HRC := Lib.hid (HRO.out.below hbx)
            have hpl : wr.heap.size + 1 + 1 < wc.heap.size := by have := HW2.out; omega
            have hqc := (hbx.block (wr.heap.size + 1 + 1) (by have := HW2.out; omega)).trans hqp.out
            have x0 := lv_c0 hxc
            have x1 := lv_c1 hxc
            have xl : X < wc.heap.size := (Array.getElem?_eq_some_iff.1 hxc).1
            have p0 := lv_c0 hqc
            have p1 := lv_c1 hqc
            have pf := lv_fr hqc
            have BTC := Lib.hid (BTO.out.trans (hbx.mono (by omega)))
            obtain ⟨⟨q0, q1, qf⟩, _, _⟩ := hres.out _ BTC.out
            have hwl : w.heap.size + 1 < wc.heap.size := by omega
            have HVX := Lib.hid (And.intro hvx (And.intro hqc hbx))
            clear hxc hvx hqc hbx hp0 hp1 hyc o0 o1 o0' o1'
            have o0 := HRC.out.c0
            have o1 := HRC.out.c1
            have olc := HRC.out.lt
            by_cases hz : pe = 0
            · subst hz
              have hE2 := HE.out
              rw [if_pos rfl] at hE2
              have HE2 := Lib.hid hE2
              clear hE2 HE
              have hplen := Nat.le_trans hpp.out.2.2.2 HLL.out
              have hpc0 := hpp.out.1
              have RO3 := Lib.hid (HRC.out.other HVX.out.2.1 (by omega) (.int .i64 pc) (.slice A5 pv.length cap5))
              have VA3 := Lib.hid (HVX.out.1.set2 HVX.out.2.1 (.int .i64 pc) (.slice A5 pv.length cap5))
              have BT3 := Lib.hid ((BTC.out.setCell (p := ⟨wr.heap.size + 1 + 1, 0, none⟩) (by show w.heap.size + 1 + 1 ≤ wr.heap.size + 1 + 1; omega) (.int .i64 pc)).setCell (p := ⟨wr.heap.size + 1 + 1, 1, none⟩) (by show w.heap.size + 1 + 1 ≤ wr.heap.size + 1 + 1; omega) (.slice A5 pv.length cap5))
              have o03 := RO3.out.c0
              have o13 := RO3.out.c1
              have hjn := Lib.hid (rjoin_any o Ao co M pc A5 cap5 pv _ _ RO3.out.va VA3.out (Nat.le_refl _) (by omega) (by omega) ho hpc0 (mxI o pc) rfl)
              have hmlen := mg_length M pv
              go_wp2_with fail
              refine hjn.out.mono ?_
              rintro e w7 ⟨A7, cap7, rfl, hv7, hb7, hf7⟩
              have ro7 := RO3.out.below hb7
              have f7 := ro7.fr
              have c07 := ro7.c0
              have c17 := ro7.c1
              have hl7 := ro7.lt
              have hs3 : wc.heap.size ≤ ((wc.setCell ⟨wr.heap.size + 1 + 1, 0, none⟩ (.int .i64 pc)).setCell ⟨wr.heap.size + 1 + 1, 1, none⟩ (.slice A5 pv.length cap5)).heap.size := by simp [World.setCell]
              have HST := Lib.hid (ro7.store (o' := canonC (mxI o pc) (mg M pv)) (cap' := cap7) hv7 (fun b off h e => by have := hf7 b off h e; omega))
              have HBB := Lib.hid ((BT3.out.trans (hb7.mono (by omega))).setCell (p := ⟨w4.heap.size, 0, none⟩) (by show w.heap.size + 1 + 1 ≤ w4.heap.size; omega) (.int .i64 (canonC (mxI o pc) (mg M pv))))
              have HBC := Lib.hid (HBB.out.setCell (p := ⟨w4.heap.size, 1, none⟩) (by show w.heap.size + 1 + 1 ≤ w4.heap.size; omega) (.slice A7 (mg M pv).length cap7))
              clear ro7 hv7 hb7 hf7
              go_wp2_with fail
              go_roundw
              case rel => exact ⟨k + 1, _, _, A7, cap7, hlk, by go_num, by omega, canon_nonneg (by unfold mxI; split <;> omega) _, Lib.hid HE2.out.symm, HST.out, HBC.out⟩
              case measure => simp [intOf]; omega
            · have hd3 : (pe != 0) = true := by rw [bne_iff_ne]; exact hz
              have hE2 := HE.out
              rw [if_neg hz] at hE2
              have HE2 := Lib.hid hE2
              clear hE2 HE hz
              go_wp2_with fail
              rw [HE2.out]
              exact bodyPost_ret (v := .tuple #[.agg #[.int .i64 0, .slice none 0 0], .int .i64 pe]) (by simp [results, Tryz.results62, go_sem, q0, q1]) rfl (gives_zero (((hres.out _ BTC.out).2.2.setCell (by simp) _).setCell (by simp) _))
        · have hvx : valS ls (xn : Int) = none := by simp only [valS]; rw [if_neg (by omega)]; simp; omega
          have hxn : ls.length ≤ xn := by omega
          have HE := Lib.hid (show rrepR (valS ls) (vs.drop (k + 1)) (canonC (mxI o 0) (mg M [((xn : Int), y)])) (mg M [((xn : Int), y)]) = rrepR (valS ls) vs c [] from by
            rw [← hE.out, HG.out.2]
            simp only [rrepR, hvx])
          have hjn := Lib.hid (rjoin_any o Ao co M 0 (some ⟨wr.heap.size + 1, 0, none⟩) 1 [((xn : Int), y)] _ _ ((HR.out.1.below W2.out).va) VP.out (Nat.le_refl _) (by omega) (by simp) ho (Int.le_refl 0) (mxI o 0) rfl)
          have hmlen := mg_length M [((xn : Int), y)]
          have BTO := HR.out.2.trans (W2.out.mono (by omega))
          clear hvx
          go_wp2_with fail
          refine hjn.out.mono ?_
          rintro e w7 ⟨A7, cap7, rfl, hv7, hb7, hf7⟩
          have ro7 := (HR.out.1.below W2.out).below hb7
          have f7 := ro7.fr
          have c07 := ro7.c0
          have c17 := ro7.c1
          have hl7 := ro7.lt
          have HST := Lib.hid (ro7.store (o' := canonC (mxI o 0) (mg M [((xn : Int), y)])) (cap' := cap7) hv7 (fun b off h e => by have := hf7 b off h e; simp only [World.size_alloc] at this; omega))
          have HBB := Lib.hid ((BTO.trans (hb7.mono (by simp only [World.size_alloc]; omega))).setCell (p := ⟨w4.heap.size, 0, none⟩) (by show w.heap.size + 1 + 1 ≤ w4.heap.size; omega) (.int .i64 (canonC (mxI o 0) (mg M [((xn : Int), y)]))))
          have HBC := Lib.hid (HBB.out.setCell (p := ⟨w4.heap.size, 1, none⟩) (by show w.heap.size + 1 + 1 ≤ w4.heap.size; omega) (.slice A7 (mg M [((xn : Int), y)]).length cap7))
          clear ro7 hv7 hb7 hf7
          go_wp2_with fail
          go_roundw
          case rel => exact ⟨k + 1, _, _, A7, cap7, hlk, by go_num, by simp only [List.length_cons, List.length_nil] at hmlen; omega, canon_nonneg (by unfold mxI; split <;> omega) _, HE, HST.out, HBC.out⟩
          case measure => simp [intOf]; omega
    · have hke : k = vs.length := by omega
      subst hke
      have hE2 := hE.out
      rw [List.drop_eq_nil_of_le (Nat.le_refl _)] at hE2
      have HE2 := Lib.hid (show rrepR (valS ls) vs c [] = ((o, M), 0) from hE2.symm)
      clear hE2 hE hro hbr
      have hR1 := Lib.hid ((HR.out.2.block (w.heap.size + 1) (by omega)).trans HC4.out.2.1)
      have hw1 : w.heap.size + 1 < wr.heap.size := by omega
      go_wp2_with fail
      rw [HE2.out]
      refine bodyPost_ret (v := .tuple #[.agg #[.int .i64 o, .slice Ao M.length co], .int .i64 0]) (by simp [results, Tryz.results62, go_sem, r0, r1]) rfl ⟨Ao, co, rfl, HR.out.1.va.set2 hR1.out _ _, (HBW.out.setCell (by simp) _).setCell (by simp) _⟩

/-! The reference's replace for metavariables. -/

set_option maxRecDepth 100000 in
set_option maxHeartbeats 8000000 in
theorem rreplaceA_any (c : Int) (A : Option Addr) (cap : Nat) (vs : List (Int × Int)) (P : Option Addr) (capp : Nat) (ls : List LvD) (B : Nat) (w : World) (hv : VA w B A vs) (hll : LL w B P ls) (hB : B ≤ w.heap.size) (hvd : vldB c vs = true) (hl : vs.length ≤ 100) (hln : ∀ l ∈ ls, l.vs.length ≤ 100) :
    Calls Tryz.prog 62 #[.agg #[.int .i64 c, .slice A vs.length cap], .slice P ls.length capp, .bool true] w
      (GivesLv (rrepR (valA ls) vs c []).1.1 (rrepR (valA ls) vs c []).1.2 (rrepR (valA ls) vs c []).2 w) := by
  go_enter Tryz.func62, Tryz.ntmps62
  have hq := Lib.hid (show ((w.alloc (.cells #[.int .i64 c, .slice A vs.length cap] 24)).alloc (.cells #[.int .i64 0, .slice none 0 0] 24)).heap[w.heap.size + 1]? = some (.cells #[.int .i64 0, .slice none 0 0] 24 (0, 0)) from PSt.alloc_last _ _ _ (by simp))
  have hb1 := Lib.hid (show Below w.heap.size w ((w.alloc (.cells #[.int .i64 c, .slice A vs.length cap] 24)).alloc (.cells #[.int .i64 0, .slice none 0 0] 24)) from ((Below.refl _ _).alloc (Nat.le_refl _) _).alloc (by simp) _)
  have hx1 := Lib.hid (show ((w.alloc (.cells #[.int .i64 c, .slice A vs.length cap] 24)).alloc (.cells #[.int .i64 0, .slice none 0 0] 24)).cell? ⟨w.heap.size, 1, none⟩ = some (.slice A vs.length cap) by go_simp)
  go_wp2_with fail
  refine (number_any c _).mono ?_
  rintro e w4 ⟨rfl, hb4⟩
  have hs4 := hb4.size
  simp only [World.size_alloc] at hs4
  have l1 := (hb4.cell (p := ⟨w.heap.size, 1, none⟩) (by simp; omega)).trans hx1.out
  have hqq := (hb4.block (w.heap.size + 1) (by simp)).trans hq.out
  have hbw4 := hb1.out.trans (hb4.mono (by simp; omega))
  have HC4 := Lib.hid (And.intro l1 (And.intro hqq hbw4))
  clear hb4 hqq hbw4 hb1 hq hx1 l1
  have hlt0 : w.heap.size < w4.heap.size := by omega
  have hR0 := Lib.hid (show RO (w4.alloc (.cells #[.int .i64 c, .slice none 0 0] 24)) w4.heap.size c none 0 [] from ⟨PSt.alloc_last _ _ _ rfl, VA.nil⟩)
  have hB0 := Lib.hid (show Below (w.heap.size + 1 + 1) w4 (w4.alloc (.cells #[.int .i64 c, .slice none 0 0] 24)) from (Below.refl _ _).alloc (by omega) _)
  have hres : Hid (∀ W, Below (w.heap.size + 1 + 1) w4 W → (W.cell? ⟨w.heap.size + 1, 0, none⟩ = some (.int .i64 0) ∧ W.cell? ⟨w.heap.size + 1, 1, none⟩ = some (.slice none 0 0) ∧ (∀ o, W.frozen? ⟨w.heap.size + 1, o, none⟩ = false)) ∧ W.cell? ⟨w.heap.size, 1, none⟩ = some (.slice A vs.length cap) ∧ Below w.heap.size w W) := Lib.hid (fun W h => by
    have e := (h.block (w.heap.size + 1) (by omega)).trans HC4.out.2.1
    exact ⟨⟨by simp [World.cell?, e], by simp [World.cell?, e], fun o => by simp [World.frozen?, e]⟩, (h.cell (p := ⟨w.heap.size, 1, none⟩) (by show w.heap.size < _; omega)).trans HC4.out.1, HC4.out.2.2.trans (h.mono (by omega))⟩)
  have HV := Lib.hid hv
  have HL := Lib.hid hll
  have HLN := Lib.hid hln
  have HD := Lib.hid (vld_in hvd)
  have hcn := (vldB_parts hvd).1.1
  have hlsl := hll.len
  clear hv hll hvd hln
  go_wp2_with fail
  generalize w4.alloc (.cells #[.int .i64 c, .slice none 0 0] 24) = W0 at *
  go_loopw [9] (fun i wr => ∃ (k : Nat) (M : List (Int × Int)) (o : Int) (Ao : Option Addr) (co : Nat), k ≤ vs.length ∧ i = .int .i64 k ∧ M.length ≤ k * 101 ∧ 0 ≤ o ∧ Hid (rrepR (valA ls) (vs.drop k) o M = rrepR (valA ls) vs c []) ∧ RO wr w4.heap.size o Ao co M ∧ Below (w.heap.size + 1 + 1) w4 wr) (fun i _ => vs.length - (intOf i).toNat)
  case atStart => exact ⟨0, [], c, none, 0, Nat.zero_le _, rfl, Nat.zero_le _, hcn, Lib.hid rfl, hR0.out, hB0.out⟩
  case round =>
    obtain ⟨k, M, o, Ao, co, hk, rfl, hn, ho, hE, hro, hbr⟩ := hrel
    have hol := hro.lt
    have o0 := hro.c0
    have o1 := hro.c1
    have HR := Lib.hid (And.intro hro hbr)
    obtain ⟨⟨r0, r1, rf⟩, l1, hbw⟩ := hres.out _ hbr
    have hsr := hbr.size
    have HBW := Lib.hid hbw
    by_cases hlk : k < vs.length
    · obtain ⟨b, off, x, y, rfl, hb, hg, hc0, hc1, hd0, hd1⟩ := (HV.out.below hbw hB).ata (by have := hbw.size; omega) hlk
      have hmem : (x, y) ∈ vs := List.mem_of_getElem? hg
      have hdr := drop_at hg
      have hxy := HD.out (x, y) hmem
      have hbl : b < wr.heap.size := by have := hbw.size; omega
      have HG := Lib.hid (And.intro hmem hdr)
      clear hmem hdr hg hro hbr hbw
      obtain ⟨⟨hx1, hx2⟩, hy1, hy2⟩ := hxy
      -- the part as it is laid first
      have W2 := Lib.hid (show Below wr.heap.size wr (((wr.alloc (.cells #[.int .i64 x, .int .i64 y] 69)).alloc (.cells #[.int .i64 x, .int .i64 y] 69)).alloc (.cells #[.int .i64 0, .slice (some ⟨wr.heap.size + 1, 0, none⟩) 1 1] 24)) from (((Below.refl _ _).alloc (Nat.le_refl _) _).alloc (by simp) _).alloc (by simp; omega) _)
      have VP := Lib.hid (show VA (((wr.alloc (.cells #[.int .i64 x, .int .i64 y] 69)).alloc (.cells #[.int .i64 x, .int .i64 y] 69)).alloc (.cells #[.int .i64 0, .slice (some ⟨wr.heap.size + 1, 0, none⟩) 1 1] 24)) (((wr.alloc (.cells #[.int .i64 x, .int .i64 y] 69)).alloc (.cells #[.int .i64 x, .int .i64 y] 69)).alloc (.cells #[.int .i64 0, .slice (some ⟨wr.heap.size + 1, 0, none⟩) 1 1] 24)).heap.size (some ⟨wr.heap.size + 1, 0, none⟩) [(x, y)] from va_pair (by go_simp) (by go_simp) (by simp))
      have o0' := (HR.out.1.below W2.out).c0
      have o1' := (HR.out.1.below W2.out).c1
      by_cases hx0 : 0 ≤ x
      · have hvx : valA ls x = none := by simp [valA, hx0]
        have HE := Lib.hid (show rrepR (valA ls) (vs.drop (k + 1)) (canonC (mxI o 0) (mg M [(x, y)])) (mg M [(x, y)]) = rrepR (valA ls) vs c [] from by
          rw [← hE.out, HG.out.2]
          simp only [rrepR, hvx])
        have hjn := Lib.hid (rjoin_any o Ao co M 0 (some ⟨wr.heap.size + 1, 0, none⟩) 1 [(x, y)] _ _ ((HR.out.1.below W2.out).va) VP.out (Nat.le_refl _) (by omega) (by simp) ho (Int.le_refl 0) (mxI o 0) rfl)
        have hmlen := mg_length M [(x, y)]
        have BTO := HR.out.2.trans (W2.out.mono (by omega))
        clear hvx
        go_wp2_with fail
        refine hjn.out.mono ?_
        rintro e w7 ⟨A7, cap7, rfl, hv7, hb7, hf7⟩
        have ro7 := (HR.out.1.below W2.out).below hb7
        have f7 := ro7.fr
        have c07 := ro7.c0
        have c17 := ro7.c1
        have hl7 := ro7.lt
        have HST := Lib.hid (ro7.store (o' := canonC (mxI o 0) (mg M [(x, y)])) (cap' := cap7) hv7 (fun b off h e => by have := hf7 b off h e; simp only [World.size_alloc] at this; omega))
        have HBB := Lib.hid ((BTO.trans (hb7.mono (by simp only [World.size_alloc]; omega))).setCell (p := ⟨w4.heap.size, 0, none⟩) (by show w.heap.size + 1 + 1 ≤ w4.heap.size; omega) (.int .i64 (canonC (mxI o 0) (mg M [(x, y)]))))
        have HBC := Lib.hid (HBB.out.setCell (p := ⟨w4.heap.size, 1, none⟩) (by show w.heap.size + 1 + 1 ≤ w4.heap.size; omega) (.slice A7 (mg M [(x, y)]).length cap7))
        clear ro7 hv7 hb7 hf7
        go_wp2_with fail
        go_roundw
        case rel => exact ⟨k + 1, _, _, A7, cap7, hlk, by go_num, by simp only [List.length_cons, List.length_nil] at hmlen; omega, canon_nonneg (by unfold mxI; split <;> omega) _, HE, HST.out, HBC.out⟩
        case measure => simp [intOf]; omega
      · obtain ⟨xn, rfl⟩ : ∃ xn : Nat, x = (-1 - (xn : Int)) := ⟨(-1 - x).toNat, by omega⟩
        have e1 : (-1 - (-1 - (xn : Int))) = (xn : Int) := by omega
        have hneg : (-1 - (xn : Int)) < 0 := by omega
        clear hx0
        by_cases hxl : xn < ls.length
        · obtain ⟨l, hkl⟩ : ∃ l, ls[xn]? = some l := ⟨_, List.getElem?_eq_getElem hxl⟩
          have hvx : valA ls (-1 - (xn : Int)) = some l := by simp only [valA]; rw [if_neg (by omega), show (-1 - (-1 - (xn : Int))).toNat = xn by omega]; exact hkl
          have hlm : l ∈ ls := List.mem_of_getElem? hkl
          have HE : Hid (rrepR (valA ls) vs c [] = if plusE l.c l.vs y = 0 then rrepR (valA ls) (vs.drop (k + 1)) (canonC (mxI o (plusC l.c l.vs y)) (mg M (plusV l.c l.vs y))) (mg M (plusV l.c l.vs y)) else ((0, []), plusE l.c l.vs y)) := Lib.hid (by
            rw [← hE.out, HG.out.2]
            simp only [rrepR, hvx])
          have BTO := Lib.hid (HR.out.2.trans (W2.out.mono (by omega)))
          have hlw := (HL.out.below HBW.out hB).below W2.out (by have := HBW.out.size; omega)
          obtain ⟨pb, poff, rfl, hpb, hp0, hp1⟩ := hlw.at_ hkl
          have HVL := Lib.hid (hlw.2 l hlm)
          have HLL := Lib.hid (HLN.out l hlm)
          have hpp := Lib.hid (plus_parts (c := l.c) (vs := l.vs) y)
          have hqp := Lib.hid (show (((wr.alloc (.cells #[.int .i64 (-1 - (xn : Int)), .int .i64 y] 69)).alloc (.cells #[.int .i64 (-1 - (xn : Int)), .int .i64 y] 69)).alloc (.cells #[.int .i64 0, .slice (some ⟨wr.heap.size + 1, 0, none⟩) 1 1] 24)).heap[wr.heap.size + 1 + 1]? = some (.cells #[.int .i64 0, .slice (some ⟨wr.heap.size + 1, 0, none⟩) 1 1] 24 (0, 0)) from PSt.alloc_last _ _ _ (by simp))
          have HX := Lib.hid (And.intro hkl hlm)
          have hxn : (xn : Int) < (ls.length : Int) := by omega
          have hyc : (((wr.alloc (.cells #[.int .i64 (-1 - (xn : Int)), .int .i64 y] 69)).alloc (.cells #[.int .i64 (-1 - (xn : Int)), .int .i64 y] 69)).alloc (.cells #[.int .i64 0, .slice (some ⟨wr.heap.size + 1, 0, none⟩) 1 1] 24)).cell? ⟨wr.heap.size, 1, none⟩ = some (.int .i64 y) := by go_simp
          have HW2 := Lib.hid (show wr.heap.size + 3 = (((wr.alloc (.cells #[.int .i64 (-1 - (xn : Int)), .int .i64 y] 69)).alloc (.cells #[.int .i64 (-1 - (xn : Int)), .int .i64 y] 69)).alloc (.cells #[.int .i64 0, .slice (some ⟨wr.heap.size + 1, 0, none⟩) 1 1] 24)).heap.size by simp)
          have HRO := Lib.hid (HR.out.1.below W2.out)
          have HPL := Lib.hid (fun (W : World) (hW : Below (((wr.alloc (.cells #[.int .i64 (-1 - (xn : Int)), .int .i64 y] 69)).alloc (.cells #[.int .i64 (-1 - (xn : Int)), .int .i64 y] 69)).alloc (.cells #[.int .i64 0, .slice (some ⟨wr.heap.size + 1, 0, none⟩) 1 1] 24)).heap.size (((wr.alloc (.cells #[.int .i64 (-1 - (xn : Int)), .int .i64 y] 69)).alloc (.cells #[.int .i64 (-1 - (xn : Int)), .int .i64 y] 69)).alloc (.cells #[.int .i64 0, .slice (some ⟨wr.heap.size + 1, 0, none⟩) 1 1] 24)) W) => rplus_any l.c l.A l.cap l.vs y B W (HVL.out.below hW (by have := HBW.out.size; simp; omega)) (by have := hW.size; have := HBW.out.size; simp at *; omega) (by have := HLL.out; omega))
          clear hvx hkl hlm hlw W2 VP
          go_wp2_with fail
          generalize (((wr.alloc (.cells #[.int .i64 (-1 - (xn : Int)), .int .i64 y] 69)).alloc (.cells #[.int .i64 (-1 - (xn : Int)), .int .i64 y] 69)).alloc (.cells #[.int .i64 0, .slice (some ⟨wr.heap.size + 1, 0, none⟩) 1 1] 24)) = W2 at *
          have hlw2 : wr.heap.size < W2.heap.size := by have := HW2.out; omega
          have hlp2 : pb < W2.heap.size := by have := HBW.out.size; omega
          generalize plusC l.c l.vs y = pc at *
          generalize plusV l.c l.vs y = pv at *
          generalize plusE l.c l.vs y = pe at *
          have HZ := Lib.hid (fun (w5 : World) (hb : Below ((W2.alloc (.cells #[.int .i64 0, .slice none 0 0] 24)).drew).heap.size ((W2.alloc (.cells #[.int .i64 0, .slice none 0 0] 24)).drew) w5) => (show w5.heap[W2.heap.size]? = some (.cells #[.int .i64 0, .slice none 0 0] 24 (0, 0)) from (hb.block W2.heap.size (by show W2.heap.size < (W2.heap.push _).size; simp)).trans (PSt.alloc_last _ _ _ rfl)))
          go_cut [13, 14] from 50 to 59 (fun s13 s14 wx => ∃ (X : Nat) (A5 : Option Addr) (cap5 : Nat), s13 = .pointer (some ⟨X, 0, none⟩) ∧ s14 = .int .i64 pe ∧ W2.heap.size ≤ X ∧ wx.heap[X]? = some (.cells #[.int .i64 pc, .slice A5 pv.length cap5] 24 (0, 0)) ∧ VA wx wx.heap.size A5 pv ∧ Below W2.heap.size W2 wx)
          case first =>
            go_wp2_with fail
            go_region_law (first
              | (go_simp; go_at_call 23; refine (HPL.out _ ((Below.refl _ _).drew)).mono ?_; rintro e w5 ⟨A5, cap5, rfl, hv5, hb5⟩; have HV5 := Lib.hid hv5; have HB5 := Lib.hid hb5; clear hb5 hv5)
              | (go_simp; go_at_call 23; refine (HPL.out _ (((Below.refl _ _).alloc (Nat.le_refl _) _).drew)).mono ?_; rintro e w5 ⟨A5, cap5, rfl, hv5, hb5⟩; have HV5 := Lib.hid hv5; have HB5 := Lib.hid hb5; have hz5 := HZ.out _ hb5; have z0 := lv_c0 hz5; have z1 := lv_c1 hz5; have zf := lv_fr hz5; have HZ5 := Lib.hid hz5; clear hb5 hv5 hz5))
            all_goals
              go_wp2_with fail
              go_meet
              first
              | exact ⟨w5.heap.size, A5, cap5, rfl, rfl, by simpa using HB5.out.size, PSt.alloc_last _ _ _ rfl, HV5.out.box, ((Below.refl W2.heap.size W2).drew.trans HB5.out).alloc (by simpa using HB5.out.size) _⟩
              | exact ⟨W2.heap.size, A5, cap5, rfl, rfl, Nat.le_refl _, lv_set2 HZ5.out, HV5.out.set2 HZ5.out _ _, ((((Below.refl W2.heap.size W2).alloc (Nat.le_refl _) _).drew.trans (HB5.out.mono (by simp))).setCell (Nat.le_refl _) _).setCell (Nat.le_refl _) _⟩
          case rest =>
            obtain ⟨X, A5, cap5, rfl, rfl, hX, hxc, hvx, hbx⟩ := hcut
            have hsc := hbx.size
            have HRC := Lib.hid (HRO.out.below hbx)
            have hpl : wr.heap.size + 1 + 1 < wc.heap.size := by have := HW2.out; omega
            have hqc := (hbx.block (wr.heap.size + 1 + 1) (by have := HW2.out; omega)).trans hqp.out
            have x0 := lv_c0 hxc
            have x1 := lv_c1 hxc
            have xl : X < wc.heap.size := (Array.getElem?_eq_some_iff.1 hxc).1
            have p0 := lv_c0 hqc
            have p1 := lv_c1 hqc
            have pf := lv_fr hqc
            have BTC := Lib.hid (BTO.out.trans (hbx.mono (by omega)))
            obtain ⟨⟨q0, q1, qf⟩, _, _⟩ := hres.out _ BTC.out
            have hwl : w.heap.size + 1 < wc.heap.size := by omega
            have HVX := Lib.hid (And.intro hvx (And.intro hqc hbx))
            clear hxc hvx hqc hbx hp0 hp1 hyc o0 o1 o0' o1'
            have o0 := HRC.out.c0
            have o1 := HRC.out.c1
            have olc := HRC.out.lt
            by_cases hz : pe = 0
            · subst hz
              have hE2 := HE.out
              rw [if_pos rfl] at hE2
              have HE2 := Lib.hid hE2
              clear hE2 HE
              have hplen := Nat.le_trans hpp.out.2.2.2 HLL.out
              have hpc0 := hpp.out.1
              have RO3 := Lib.hid (HRC.out.other HVX.out.2.1 (by omega) (.int .i64 pc) (.slice A5 pv.length cap5))
              have VA3 := Lib.hid (HVX.out.1.set2 HVX.out.2.1 (.int .i64 pc) (.slice A5 pv.length cap5))
              have BT3 := Lib.hid ((BTC.out.setCell (p := ⟨wr.heap.size + 1 + 1, 0, none⟩) (by show w.heap.size + 1 + 1 ≤ wr.heap.size + 1 + 1; omega) (.int .i64 pc)).setCell (p := ⟨wr.heap.size + 1 + 1, 1, none⟩) (by show w.heap.size + 1 + 1 ≤ wr.heap.size + 1 + 1; omega) (.slice A5 pv.length cap5))
              have o03 := RO3.out.c0
              have o13 := RO3.out.c1
              have hjn := Lib.hid (rjoin_any o Ao co M pc A5 cap5 pv _ _ RO3.out.va VA3.out (Nat.le_refl _) (by omega) (by omega) ho hpc0 (mxI o pc) rfl)
              have hmlen := mg_length M pv
              go_wp2_with fail
              refine hjn.out.mono ?_
              rintro e w7 ⟨A7, cap7, rfl, hv7, hb7, hf7⟩
              have ro7 := RO3.out.below hb7
              have f7 := ro7.fr
              have c07 := ro7.c0
              have c17 := ro7.c1
              have hl7 := ro7.lt
              have hs3 : wc.heap.size ≤ ((wc.setCell ⟨wr.heap.size + 1 + 1, 0, none⟩ (.int .i64 pc)).setCell ⟨wr.heap.size + 1 + 1, 1, none⟩ (.slice A5 pv.length cap5)).heap.size := by simp [World.setCell]
              have HST := Lib.hid (ro7.store (o' := canonC (mxI o pc) (mg M pv)) (cap' := cap7) hv7 (fun b off h e => by have := hf7 b off h e; omega))
              have HBB := Lib.hid ((BT3.out.trans (hb7.mono (by omega))).setCell (p := ⟨w4.heap.size, 0, none⟩) (by show w.heap.size + 1 + 1 ≤ w4.heap.size; omega) (.int .i64 (canonC (mxI o pc) (mg M pv))))
              have HBC := Lib.hid (HBB.out.setCell (p := ⟨w4.heap.size, 1, none⟩) (by show w.heap.size + 1 + 1 ≤ w4.heap.size; omega) (.slice A7 (mg M pv).length cap7))
              clear ro7 hv7 hb7 hf7
              go_wp2_with fail
              go_roundw
              case rel => exact ⟨k + 1, _, _, A7, cap7, hlk, by go_num, by omega, canon_nonneg (by unfold mxI; split <;> omega) _, Lib.hid HE2.out.symm, HST.out, HBC.out⟩
              case measure => simp [intOf]; omega
            · have hd3 : (pe != 0) = true := by rw [bne_iff_ne]; exact hz
              have hE2 := HE.out
              rw [if_neg hz] at hE2
              have HE2 := Lib.hid hE2
              clear hE2 HE hz
              go_wp2_with fail
              rw [HE2.out]
              exact bodyPost_ret (v := .tuple #[.agg #[.int .i64 0, .slice none 0 0], .int .i64 pe]) (by simp [results, Tryz.results62, go_sem, q0, q1]) rfl (gives_zero (((hres.out _ BTC.out).2.2.setCell (by simp) _).setCell (by simp) _))
        · have hvx : valA ls (-1 - (xn : Int)) = none := by simp only [valA]; rw [if_neg (by omega), show (-1 - (-1 - (xn : Int))).toNat = xn by omega]; exact List.getElem?_eq_none (by omega)
          have hxn : ls.length ≤ xn := by omega
          have HE := Lib.hid (show rrepR (valA ls) (vs.drop (k + 1)) (canonC (mxI o 0) (mg M [((-1 - (xn : Int)), y)])) (mg M [((-1 - (xn : Int)), y)]) = rrepR (valA ls) vs c [] from by
            rw [← hE.out, HG.out.2]
            simp only [rrepR, hvx])
          have hjn := Lib.hid (rjoin_any o Ao co M 0 (some ⟨wr.heap.size + 1, 0, none⟩) 1 [((-1 - (xn : Int)), y)] _ _ ((HR.out.1.below W2.out).va) VP.out (Nat.le_refl _) (by omega) (by simp) ho (Int.le_refl 0) (mxI o 0) rfl)
          have hmlen := mg_length M [((-1 - (xn : Int)), y)]
          have BTO := HR.out.2.trans (W2.out.mono (by omega))
          clear hvx
          go_wp2_with fail
          refine hjn.out.mono ?_
          rintro e w7 ⟨A7, cap7, rfl, hv7, hb7, hf7⟩
          have ro7 := (HR.out.1.below W2.out).below hb7
          have f7 := ro7.fr
          have c07 := ro7.c0
          have c17 := ro7.c1
          have hl7 := ro7.lt
          have HST := Lib.hid (ro7.store (o' := canonC (mxI o 0) (mg M [((-1 - (xn : Int)), y)])) (cap' := cap7) hv7 (fun b off h e => by have := hf7 b off h e; simp only [World.size_alloc] at this; omega))
          have HBB := Lib.hid ((BTO.trans (hb7.mono (by simp only [World.size_alloc]; omega))).setCell (p := ⟨w4.heap.size, 0, none⟩) (by show w.heap.size + 1 + 1 ≤ w4.heap.size; omega) (.int .i64 (canonC (mxI o 0) (mg M [((-1 - (xn : Int)), y)]))))
          have HBC := Lib.hid (HBB.out.setCell (p := ⟨w4.heap.size, 1, none⟩) (by show w.heap.size + 1 + 1 ≤ w4.heap.size; omega) (.slice A7 (mg M [((-1 - (xn : Int)), y)]).length cap7))
          clear ro7 hv7 hb7 hf7
          go_wp2_with fail
          go_roundw
          case rel => exact ⟨k + 1, _, _, A7, cap7, hlk, by go_num, by simp only [List.length_cons, List.length_nil] at hmlen; omega, canon_nonneg (by unfold mxI; split <;> omega) _, HE, HST.out, HBC.out⟩
          case measure => simp [intOf]; omega
    · have hke : k = vs.length := by omega
      subst hke
      have hE2 := hE.out
      rw [List.drop_eq_nil_of_le (Nat.le_refl _)] at hE2
      have HE2 := Lib.hid (show rrepR (valA ls) vs c [] = ((o, M), 0) from hE2.symm)
      clear hE2 hE hro hbr
      have hR1 := Lib.hid ((HR.out.2.block (w.heap.size + 1) (by omega)).trans HC4.out.2.1)
      have hw1 : w.heap.size + 1 < wr.heap.size := by omega
      go_wp2_with fail
      rw [HE2.out]
      refine bodyPost_ret (v := .tuple #[.agg #[.int .i64 o, .slice Ao M.length co], .int .i64 0]) (by simp [results, Tryz.results62, go_sem, r0, r1]) rfl ⟨Ao, co, rfl, HR.out.1.va.set2 hR1.out _ _, (HBW.out.setCell (by simp) _).setCell (by simp) _⟩

/-! Subst and Assign of the reference: what they return is what the program's return. -/

theorem canon_nil (c : Int) : canonC c [] = c := rfl
theorem rep_same (val : Int → Option LvD) {c : Int} {vs : List (Int × Int)} (h : vldB c vs = true) : finR (repR val vs c []) = rrepR val vs c [] := by
  have h1 := rep_eq val vs c [] List.Pairwise.nil (fun p hp => (vld_in h p hp).2.1)
  rwa [canon_nil] at h1
/-- The boxes of the reference's Subst and Assign: the level, the result. -/
structure SR (w0 w : World) (c : Int) (A : Option Addr) (n cap : Nat) : Prop where
  below : Below w0.heap.size w0 w
  size : w0.heap.size + 2 ≤ w.heap.size
  l0 : w.cell? ⟨w0.heap.size, 0, none⟩ = some (.int .i64 c)
  l1 : w.cell? ⟨w0.heap.size, 1, none⟩ = some (.slice A n cap)
  q : w.heap[w0.heap.size + 1]? = some (.cells #[.int .i64 0, .slice none 0 0] 24 (0, 0))
namespace SR
variable {w0 w w' : World} {c : Int} {A : Option Addr} {n cap : Nat}
theorem next (h : SR w0 w c A n cap) (hb : Below w.heap.size w w') : SR w0 w' c A n cap :=
  have hs := h.size
  ⟨h.below.trans (hb.mono (by omega)), Nat.le_trans hs hb.size, (hb.cell (p := ⟨w0.heap.size, 0, none⟩) (by show w0.heap.size < _; omega)).trans h.l0, (hb.cell (p := ⟨w0.heap.size, 1, none⟩) (by show w0.heap.size < _; omega)).trans h.l1, (hb.block _ (by omega)).trans h.q⟩
theorem start (w : World) (c : Int) (A : Option Addr) (n cap : Nat) : SR w ((w.alloc (.cells #[.int .i64 c, .slice A n cap] 24)).alloc (.cells #[.int .i64 0, .slice none 0 0] 24)) c A n cap :=
  ⟨(((Below.refl _ _).alloc (Nat.le_refl _) _).alloc (by simp) _), by simp, by go_simp, by go_simp, PSt.alloc_last _ _ _ (by simp)⟩
end SR

set_option maxRecDepth 100000 in
set_option maxHeartbeats 4000000 in
theorem rsubst_any (c : Int) (A : Option Addr) (cap : Nat) (vs : List (Int × Int)) (P : Option Addr) (capp : Nat) (ls : List LvD) (B : Nat) (w : World) (hv : VA w B A vs) (hl : LL w B P ls) (hB : B ≤ w.heap.size) (hlv : vs.length ≤ 100) (hll : ∀ l ∈ ls, l.vs.length ≤ 100) :
    Calls Tryz.prog 30 #[.agg #[.int .i64 c, .slice A vs.length cap], .slice P ls.length capp] w (GivesLv (subR c vs ls).1.1 (subR c vs ls).1.2 (subR c vs ls).2 w) := by
  have hS := Lib.hid (SR.start w c A vs.length cap)
  have HV := Lib.hid hv
  have HL := Lib.hid hl
  have HLL := Lib.hid hll
  have hlen := hl.len
  clear hv hl hll
  go_enter Tryz.func30, Tryz.ntmps30
  go_wp2_with fail
  refine (rvalid_any c A cap vs B _ (HV.out.below hS.out.below hB) (by have := hS.out.below.size; omega)).mono ?_
  rintro e w1 ⟨rfl, hb1⟩
  have S1 := Lib.hid (hS.out.next hb1)
  clear hb1 hS
  have l0 := S1.out.l0
  have l1 := S1.out.l1
  have q0 := lv_c0 S1.out.q
  have q1 := lv_c1 S1.out.q
  have qf := lv_fr S1.out.q
  have hs1 := S1.out.size
  have hk2 : w.heap.size + 1 < w1.heap.size := by omega
  cases hvd : vldB c vs with
  | false =>
    have HR := Lib.hid (show subR c vs ls = ((0, []), 3) by simp [subR, hvd])
    clear hvd
    go_wp2_with fail
    rw [HR.out]
    exact bodyPost_ret (v := .tuple #[.agg #[.int .i64 0, .slice none 0 0], .int .i64 3]) (by simp [results, Tryz.results30, go_sem, q0, q1]) rfl (gives_zero ((S1.out.below.setCell (by simp) _).setCell (by simp) _))
  | true =>
    have HVD := Lib.hid hvd
    clear hvd
    go_wp2_with fail
    refine (rallValid_any P capp ls B _ (HL.out.below S1.out.below hB) (by omega)).mono ?_
    rintro e w2 ⟨rfl, hb2⟩
    have S2 := Lib.hid (S1.out.next hb2)
    clear hb2 S1 l0 l1 q0 q1 qf hs1 hk2
    have l0 := S2.out.l0
    have l1 := S2.out.l1
    have q0 := lv_c0 S2.out.q
    have q1 := lv_c1 S2.out.q
    have qf := lv_fr S2.out.q
    have hs1 := S2.out.size
    have hk2 : w.heap.size + 1 < w2.heap.size := by omega
    cases hva : ls.all LvD.ok with
    | false =>
      have HR := Lib.hid (show subR c vs ls = ((0, []), 3) by simp [subR, hva])
      clear hva
      go_wp2_with fail
      rw [HR.out]
      exact bodyPost_ret (v := .tuple #[.agg #[.int .i64 0, .slice none 0 0], .int .i64 3]) (by simp [results, Tryz.results30, go_sem, q0, q1]) rfl (gives_zero ((S2.out.below.setCell (by simp) _).setCell (by simp) _))
    | true =>
      have HVA := Lib.hid hva
      clear hva
      have HR : Hid (subR c vs ls = if (ls.length : Int) < parI c vs then ((0, []), 24) else rrepR (valS ls) vs c []) := Lib.hid (by simp only [subR, HVD.out, HVA.out, and_self, if_true, rep_same (valS ls) HVD.out])
      have hpar := Lib.hid (rparams_any c A cap vs B w2 (HV.out.below S2.out.below hB) (by omega))
      generalize parI c vs = pq at *
      go_wp2_with fail
      refine hpar.out.mono ?_
      rintro e w7 ⟨rfl, hb7⟩
      have HB := Lib.hid (S2.out.next hb7)
      clear hb7 S2 l0 l1 q0 q1 qf hs1 hk2 hpar
      have l0 := HB.out.l0
      have l1 := HB.out.l1
      have q0 := lv_c0 HB.out.q
      have q1 := lv_c1 HB.out.q
      have qf := lv_fr HB.out.q
      have hs7 := HB.out.size
      have hk7 : w.heap.size + 1 < w7.heap.size := by omega
      by_cases hpl : (ls.length : Int) < pq
      · have HR2 := Lib.hid (show subR c vs ls = ((0, []), 24) by rw [HR.out, if_pos hpl])
        go_wp2_with fail
        rw [HR2.out]
        exact bodyPost_ret (v := .tuple #[.agg #[.int .i64 0, .slice none 0 0], .int .i64 24]) (by simp [results, Tryz.results30, go_sem, q0, q1]) rfl (gives_zero ((HB.out.below.setCell (by simp) _).setCell (by simp) _))
      · have HR2 := Lib.hid (show subR c vs ls = rrepR (valS ls) vs c [] by rw [HR.out, if_neg hpl])
        have hrep := Lib.hid (rreplaceS_any c A cap vs P capp ls B w7 (HV.out.below HB.out.below hB) (HL.out.below HB.out.below hB) (by omega) HVD.out hlv HLL.out)
        have hplf : pq ≤ (ls.length : Int) := by omega
        clear hpl
        rw [← HR2.out] at hrep
        generalize (subR c vs ls).1.1 = rc at *
        generalize (subR c vs ls).1.2 = rv at *
        generalize (subR c vs ls).2 = re at *
        go_wp2_with fail
        refine hrep.out.mono ?_
        rintro e w8 ⟨A8, cap8, rfl, hv8, hb8⟩
        have S8 := Lib.hid (HB.out.next hb8)
        have HV8 := Lib.hid hv8
        clear hv8 hb8 l0 l1 q0 q1 qf
        have q0 := lv_c0 S8.out.q
        have q1 := lv_c1 S8.out.q
        have qf := lv_fr S8.out.q
        have hs8 := S8.out.size
        have hk8 : w.heap.size + 1 < w8.heap.size := by omega
        go_wp2_with fail
        exact bodyPost_ret (v := .tuple #[.agg #[.int .i64 rc, .slice A8 rv.length cap8], .int .i64 re]) (by simp [results, Tryz.results30, go_sem, q0, q1]) rfl ⟨A8, cap8, rfl, HV8.out.set2 S8.out.q _ _, (S8.out.below.setCell (by simp) _).setCell (by simp) _⟩

set_option maxRecDepth 100000 in
set_option maxHeartbeats 4000000 in
theorem rassign_any (c : Int) (A : Option Addr) (cap : Nat) (vs : List (Int × Int)) (P : Option Addr) (capp : Nat) (ls : List LvD) (B : Nat) (w : World) (hv : VA w B A vs) (hl : LL w B P ls) (hB : B ≤ w.heap.size) (hlv : vs.length ≤ 100) (hll : ∀ l ∈ ls, l.vs.length ≤ 100) :
    Calls Tryz.prog 32 #[.agg #[.int .i64 c, .slice A vs.length cap], .slice P ls.length capp] w (GivesLv (asgR c vs ls).1.1 (asgR c vs ls).1.2 (asgR c vs ls).2 w) := by
  have hS := Lib.hid (SR.start w c A vs.length cap)
  have HV := Lib.hid hv
  have HL := Lib.hid hl
  have HLL := Lib.hid hll
  have hlen := hl.len
  clear hv hl hll
  go_enter Tryz.func32, Tryz.ntmps32
  go_wp2_with fail
  refine (rvalid_any c A cap vs B _ (HV.out.below hS.out.below hB) (by have := hS.out.below.size; omega)).mono ?_
  rintro e w1 ⟨rfl, hb1⟩
  have S1 := Lib.hid (hS.out.next hb1)
  clear hb1 hS
  have l0 := S1.out.l0
  have l1 := S1.out.l1
  have q0 := lv_c0 S1.out.q
  have q1 := lv_c1 S1.out.q
  have qf := lv_fr S1.out.q
  have hs1 := S1.out.size
  have hk2 : w.heap.size + 1 < w1.heap.size := by omega
  cases hvd : vldB c vs with
  | false =>
    have HR := Lib.hid (show asgR c vs ls = ((0, []), 3) by simp [asgR, hvd])
    clear hvd
    go_wp2_with fail
    rw [HR.out]
    exact bodyPost_ret (v := .tuple #[.agg #[.int .i64 0, .slice none 0 0], .int .i64 3]) (by simp [results, Tryz.results32, go_sem, q0, q1]) rfl (gives_zero ((S1.out.below.setCell (by simp) _).setCell (by simp) _))
  | true =>
    have HVD := Lib.hid hvd
    clear hvd
    go_wp2_with fail
    refine (rallValid_any P capp ls B _ (HL.out.below S1.out.below hB) (by omega)).mono ?_
    rintro e w2 ⟨rfl, hb2⟩
    have S2 := Lib.hid (S1.out.next hb2)
    clear hb2 S1 l0 l1 q0 q1 qf hs1 hk2
    have l0 := S2.out.l0
    have l1 := S2.out.l1
    have q0 := lv_c0 S2.out.q
    have q1 := lv_c1 S2.out.q
    have qf := lv_fr S2.out.q
    have hs1 := S2.out.size
    have hk2 : w.heap.size + 1 < w2.heap.size := by omega
    cases hva : ls.all LvD.ok with
    | false =>
      have HR := Lib.hid (show asgR c vs ls = ((0, []), 3) by simp [asgR, hva])
      clear hva
      go_wp2_with fail
      rw [HR.out]
      exact bodyPost_ret (v := .tuple #[.agg #[.int .i64 0, .slice none 0 0], .int .i64 3]) (by simp [results, Tryz.results32, go_sem, q0, q1]) rfl (gives_zero ((S2.out.below.setCell (by simp) _).setCell (by simp) _))
    | true =>
      have HVA := Lib.hid hva
      clear hva
      have HR2 := Lib.hid (show asgR c vs ls = rrepR (valA ls) vs c [] by simp only [asgR, HVD.out, HVA.out, and_self, if_true, rep_same (valA ls) HVD.out])
      have hrep := Lib.hid (rreplaceA_any c A cap vs P capp ls B w2 (HV.out.below S2.out.below hB) (HL.out.below S2.out.below hB) (by omega) HVD.out hlv HLL.out)
      rw [← HR2.out] at hrep
      generalize (asgR c vs ls).1.1 = rc at *
      generalize (asgR c vs ls).1.2 = rv at *
      generalize (asgR c vs ls).2 = re at *
      go_wp2_with fail
      refine hrep.out.mono ?_
      rintro e w8 ⟨A8, cap8, rfl, hv8, hb8⟩
      have S8 := Lib.hid (S2.out.next hb8)
      have HV8 := Lib.hid hv8
      clear hv8 hb8 l0 l1 q0 q1 qf
      have q0 := lv_c0 S8.out.q
      have q1 := lv_c1 S8.out.q
      have qf := lv_fr S8.out.q
      have hs8 := S8.out.size
      have hk8 : w.heap.size + 1 < w8.heap.size := by omega
      go_wp2_with fail
      exact bodyPost_ret (v := .tuple #[.agg #[.int .i64 rc, .slice A8 rv.length cap8], .int .i64 re]) (by simp [results, Tryz.results32, go_sem, q0, q1]) rfl ⟨A8, cap8, rfl, HV8.out.set2 S8.out.q _ _, (S8.out.below.setCell (by simp) _).setCell (by simp) _⟩
end Go.Proofs.YtipnabbdhmapkaaGreatDoor
