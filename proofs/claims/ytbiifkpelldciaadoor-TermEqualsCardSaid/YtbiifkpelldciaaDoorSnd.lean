/- sameNode of the program. -/
import Derived.Test.YtbiifkpelldciaaDoorEqf
import Derived.Test.YtbiifkpelldciaaDoorNmr
namespace Go.Proofs.YtbiifkpelldciaaDoor
open Go.RowKit

/-- Two nodes are equal but for their kids, of which they have the same number. -/
def ndEq (a b : Tm) : Bool := match a, b with | .mk k i nm ls ks, .mk k' i' nm' ls' ks' => decide (k = k') && (decide (i = i') && (decide (nm = nm') && (decide (ks.length = ks'.length) && decide (ls = ls'))))

theorem str_ne {a b : ByteArray} (h : a ≠ b) : (a.toList == b.toList) = false := by
  rw [beq_eq_false_iff_ne]
  intro e
  rw [ba_list, ba_list] at e
  exact h (ByteArray.ext (Array.ext' e))
theorem ndEq_mk {k i k' i' : Int} {nm nm' : ByteArray} {ls ls' : List (Int × List (Int × Int))} {ks ks' : List Tm} : ndEq (.mk k i nm ls ks) (.mk k' i' nm' ls' ks') = (decide (k = k') && (decide (i = i') && (decide (nm = nm') && (decide (ks.length = ks'.length) && decide (ls = ls'))))) := rfl

set_option maxRecDepth 100000 in
set_option maxHeartbeats 4000000 in
theorem sameNode_any (a b : Tm) (va vb : Value) (B : Nat) (w : World) (hva : TmV w B a va) (hvb : TmV w B b vb) (hB : B ≤ w.heap.size) :
    Calls Tryd.prog 41 #[va, vb] w fun e w' => e = .returned (.bool (ndEq a b)) ∧ Below w.heap.size w w' := by
  cases a with
  | mk k1 i1 n1 l1 ks1 =>
  cases b with
  | mk k2 i2 n2 l2 ks2 =>
  rw [TmV] at hva hvb
  obtain ⟨AL1, cl1, AK1, ck1, rfl, hl1, hz1, _⟩ := hva
  obtain ⟨AL2, cl2, AK2, ck2, rfl, hl2, hz2, _⟩ := hvb
  have hbb : Below w.heap.size w ((w.alloc (.cells #[.int .i64 k1, .int .i64 i1, .string n1, .slice AL1 l1.length cl1, .slice AK1 ks1.length ck1] 27)).alloc (.cells #[.int .i64 k2, .int .i64 i2, .string n2, .slice AL2 l2.length cl2, .slice AK2 ks2.length ck2] 27)) := ((Below.refl _ _).alloc (Nat.le_refl _) _).alloc (by simp) _
  have H1 := Lib.hid (hl1.below hbb hB)
  have H2 := Lib.hid (hl2.below hbb hB)
  have HB := Lib.hid hbb
  have hz1' : ks1.length ≤ 1759218604441 := by omega
  have hz2' : ks2.length ≤ 1759218604441 := by omega
  have hsz : B ≤ ((w.alloc (.cells #[.int .i64 k1, .int .i64 i1, .string n1, .slice AL1 l1.length cl1, .slice AK1 ks1.length ck1] 27)).alloc (.cells #[.int .i64 k2, .int .i64 i2, .string n2, .slice AL2 l2.length cl2, .slice AK2 ks2.length ck2] 27)).heap.size := by simp; omega
  clear hl1 hl2 hbb hz1 hz2
  rw [ndEq_mk]
  by_cases hk : k1 = k2
  case neg =>
    have d : (k1 == k2) = false := by simpa using hk
    have HD := Lib.hid (decide_eq_false hk)
    rw [HD.out]
    clear hk
    go_enter Tryd.func41, Tryd.ntmps41
    go_wp2_with fail
    go_ret
    exact ⟨rfl, HB.out⟩
  subst hk
  by_cases hk : i1 = i2
  case neg =>
    have d : (i1 == i2) = false := by simpa using hk
    have HD := Lib.hid (decide_eq_false hk)
    rw [HD.out, decide_eq_true rfl]
    clear hk
    go_enter Tryd.func41, Tryd.ntmps41
    go_wp2_with fail
    go_ret
    exact ⟨rfl, HB.out⟩
  subst hk
  by_cases hk : n1 = n2
  case neg =>
    have d : (n1.toList == n2.toList) = false := str_ne hk
    have HD := Lib.hid (decide_eq_false hk)
    rw [HD.out, decide_eq_true rfl, decide_eq_true rfl]
    clear hk
    go_enter Tryd.func41, Tryd.ntmps41
    go_wp2_with fail
    go_ret
    exact ⟨rfl, HB.out⟩
  subst hk
  by_cases hk : ks1.length = ks2.length
  case neg =>
    have d : ((ks1.length : Int) == (ks2.length : Int)) = false := by rw [beq_eq_false_iff_ne]; omega
    have HD := Lib.hid (decide_eq_false hk)
    rw [HD.out, decide_eq_true rfl, decide_eq_true rfl, decide_eq_true rfl]
    clear hk
    go_enter Tryd.func41, Tryd.ntmps41
    go_wp2_with fail
    go_ret
    exact ⟨rfl, HB.out⟩
  have d : ((ks1.length : Int) == (ks2.length : Int)) = true := by rw [beq_iff_eq]; omega
  have HD := Lib.hid (decide_eq_true hk)
  rw [HD.out, decide_eq_true rfl, decide_eq_true rfl, decide_eq_true rfl]
  simp only [Bool.true_and]
  clear hk
  go_enter Tryd.func41, Tryd.ntmps41
  go_wp2_with fail
  refine (equalF_any l1 l2 AL1 AL2 cl1 cl2 B _ H1.out H2.out hsz).mono ?_
  rintro e w2 ⟨rfl, hb2⟩
  have HB2 := Lib.hid (HB.out.trans (hb2.mono HB.out.size))
  clear hb2
  go_wp2_with fail
  go_ret
  exact ⟨rfl, HB2.out⟩
end Go.Proofs.YtbiifkpelldciaaDoor
