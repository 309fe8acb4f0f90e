/- Itoa and varText. -/
import Derived.Test.YtipnabbdhmapkaaGreatDoorShelf
import Derived.Test.YtipnabbdhmapkaaGreatDoorW
import Derived.Lib.ItoaLen
namespace Go.Proofs.YtipnabbdhmapkaaGreatDoor
open Go.RowKit

abbrev Pow (w : World) : Prop := Lib.TabIs Tryz.prog w "internal/strconv.uint64pow10" .u64 Lib.pow10Tab
theorem Pow.below {w w' : World} (h : Pow w) (hb : Below w.heap.size w w') : Pow w' := by
  have hg : Tryz.prog.globalNamed "internal/strconv.uint64pow10" = some 0 := by kernel_rfl
  have h1 : w.var? Tryz.prog "internal/strconv.uint64pow10" = _ := h
  show w'.var? Tryz.prog "internal/strconv.uint64pow10" = _
  refine Eq.trans ?_ h1
  simp only [World.var?, hg, Option.bind_some] at h1 ⊢
  rcases Nat.lt_or_ge 0 w.heap.size with hl | hl
  · rw [hb.block _ hl]
  · rw [Array.getElem?_eq_none hl] at h1
    cases h1

theorem below_grow {B : Nat} {w w' : World} (h : Below B w w') (os : Array Obj) (hB : B ≤ w.heap.size) : Below B w (Go.Sort.grow w' os) :=
  ⟨h.os, h.tape, h.output, by have := h.size; simp [Go.Sort.grow]; omega, fun b hb => by
    have := h.size
    rw [← h.block b hb]
    simp [Go.Sort.grow, Array.getElem?_append_left (show b < w'.heap.size by omega)]⟩

theorem itoa_any (n : Int) (h0 : 0 ≤ n) (h1 : n ≤ 1000000) (w : World) (hp : Pow w) :
    Calls Tryz.prog 65 #[.int .i64 n] w fun e w' => e = .returned (.string ⟨(Lib.itoa n).toArray⟩) ∧ Below w.heap.size w w' :=
  (Tryz.strconv_Itoa n (by omega) (by omega) w hp).mono fun e w' ⟨he, k, os, hw⟩ => ⟨he, by
    subst hw
    exact below_grow (Below.drewN' (Below.refl _ _) k) os (Nat.le_refl _)⟩

/-- The text of a variable: its sign, its number, and its offset if that is not 0. -/
def varT (p : ByteArray) (n pl : Int) : ByteArray := if pl = 0 then p ++ ⟨(Lib.itoa n).toArray⟩ else p ++ ⟨(Lib.itoa n).toArray⟩ ++ (⟨#[32, 43, 32]⟩ ++ ⟨(Lib.itoa pl).toArray⟩)

set_option maxHeartbeats 1000000 in
theorem varText_any (p : ByteArray) (n pl : Int) (h0 : 0 ≤ n) (h1 : n ≤ 65536) (g0 : 0 ≤ pl) (g1 : pl ≤ 100) (w : World) (hp : Pow w) (hs : p.size ≤ 10) :
    Calls Tryz.prog 66 #[.string p, .int .i64 n, .int .i64 pl] w fun e w' => e = .returned (.string (varT p n pl)) ∧ Below w.heap.size w w' := by
  have l1 : (Lib.itoa n).length ≤ 21 := Lib.itoa_length_le n (by omega) (by omega)
  have l2 : (Lib.itoa pl).length ≤ 21 := Lib.itoa_length_le pl (by omega) (by omega)
  by_cases hz : pl = 0
  · subst hz
    go_enter Tryz.func66, Tryz.ntmps66
    go_wp2_with fail
    refine (itoa_any n h0 (by omega) w hp).mono ?_
    rintro e w1 ⟨rfl, hb⟩
    go_wp2_with fail
    go_ret
    exact ⟨by simp [varT], hb⟩
  · have hd : (pl != 0) = true := by rw [bne_iff_ne]; exact hz
    have HZ := Lib.hid hz
    clear hz
    go_enter Tryz.func66, Tryz.ntmps66
    go_wp2_with fail
    refine (itoa_any n h0 (by omega) w hp).mono ?_
    rintro e w1 ⟨rfl, hb⟩
    have hp1 := hp.below hb
    go_wp2_with fail
    refine (itoa_any pl g0 (by omega) w1 hp1).mono ?_
    rintro e w2 ⟨rfl, hb2⟩
    go_wp2_with fail
    go_ret
    exact ⟨by rw [varT, if_neg HZ.out]; rfl, hb.trans (hb2.mono hb.size)⟩
end Go.Proofs.YtipnabbdhmapkaaGreatDoor
