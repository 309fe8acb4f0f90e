/- merged: the iterator over two ascending lists. -/
import Derived.Test.YtipnabbdhmapkaaGreatDoorMg
import Derived.RangeFuncBox
import Derived.RangeFuncLeaves
import Derived.RangeFuncNested
import Derived.Shelf.Abstract
import Derived.OwnWalkIn
import Derived.TacticsInMore
import Derived.LoopNIn
import Derived.LoopIn
import Derived.Sort.QuietIn
import Derived.BigRegionIn
namespace Go.Proofs.YtipnabbdhmapkaaGreatDoor
open Go.RowKit Go.Shelf
attribute [local go_sem] Oper.semAt_some

set_option maxHeartbeats 1000000 in
theorem merged_in (n : Nat) (a b : Value) (w : World) (Aa Ab : Option Addr) (na ca nb cb : Nat) (ha : a = .slice Aa na ca) (hb : b = .slice Ab nb cb) :
    CallsIn Fence.wide n Tryz.prog 53 #[a, b] w fun e w' => e = .returned (.func (.func 81) #[] #[.pointer (some ⟨w.heap.size, 0, none⟩), .pointer (some ⟨w.heap.size + 1, 0, none⟩)]) ∧ w' = (w.alloc (.cells #[a] 22)).alloc (.cells #[b] 22) := by
  subst ha hb
  refine callsIn_of_wp Tryz.func53 rfl trivial ?_ rfl
  simp only [Tryz.ntmps53, List.size_toArray, List.length_cons, List.length_nil, Nat.reduceAdd, Nat.reduceSub, Array.replicate_succ, Array.replicate_zero, List.push_toArray, List.append_toArray, List.nil_append, List.cons_append]
  gi_wp2
  go_ret
  exact ⟨rfl, rfl⟩

/-- A new variable, and two stores into it: whatever lay lies as it lay. -/
theorem grown_var (w : World) (o : Obj) (q : Nat) (u v : Value) : w.grownBy ((((w.alloc o).drewN q).setCell ⟨w.heap.size, 0, none⟩ u).setCell ⟨w.heap.size, 1, none⟩ v) none :=
  ⟨rfl, rfl, rfl, by simp, fun k hk _ => by
    rw [Below.heap_setCell _ _ _ k (by show k ≠ w.heap.size; omega), Below.heap_setCell _ _ _ k (by show k ≠ w.heap.size; omega)]
    exact Below.heap_alloc w o k hk⟩
theorem below_grown {B : Nat} {w w' : World} (h : w.grownBy w' none) (hB : B ≤ w.heap.size) : Below B w w' :=
  (Below.refl B w).grown h hB (fun _ e => by cases e)

/-- What lay below n₀, and blocks Ba and Bb, lie as they lay. -/
structure KAB (n₀ Ba Bb : Nat) (W W' : World) : Prop where
  below : Below n₀ W W'
  a : W'.heap[Ba]? = W.heap[Ba]?
  b : W'.heap[Bb]? = W.heap[Bb]?
theorem KAB.refl (n₀ Ba Bb : Nat) (W : World) : KAB n₀ Ba Bb W W := ⟨Below.refl _ _, rfl, rfl⟩
theorem KAB.trans {n₀ Ba Bb : Nat} {W W' W'' : World} (h : KAB n₀ Ba Bb W W') (k : KAB n₀ Ba Bb W' W'') : KAB n₀ Ba Bb W W'' := ⟨h.below.trans k.below, k.a.trans h.a, k.b.trans h.b⟩
theorem KAB.size {n₀ Ba Bb : Nat} {W W' : World} (h : KAB n₀ Ba Bb W W') : W.heap.size ≤ W'.heap.size := h.below.size
theorem KAB.grown {n₀ Ba Bb : Nat} {w w' : World} {row : Option Nat} (h : w.grownBy w' row) (hn : n₀ ≤ w.heap.size) (ha : Ba < w.heap.size) (hb : Bb < w.heap.size) (hr : ∀ r, row = some r → n₀ ≤ r ∧ r ≠ Ba ∧ r ≠ Bb) : KAB n₀ Ba Bb w w' :=
  ⟨(Below.refl n₀ w).grown h hn (fun r e => (hr r e).1), h.block Ba ha (fun e => (hr Ba e.symm).2.1 rfl), h.block Bb hb (fun e => (hr Bb e.symm).2.2 rfl)⟩

set_option maxRecDepth 100000 in
set_option maxHeartbeats 4000000 in
theorem mg1_in (n : Nat) (hn : 1 ≤ n) (l Ba Bb n₀ : Nat) (Aa Ab : Option Addr) (ca cb : Nat) (us bs : List (Int × Int)) (J Jx : List (Int × Int) → World → Prop)
    (hY : ∀ pre x W, J pre W → pre.length < (mg us bs).length → YieldAt Fence.wide (n - 1) Tryz.prog l #[.agg #[.int .i64 x.1, .int .i64 x.2]] W fun e W' =>
      (e = .returned (.bool true) ∧ J (pre ++ [x]) W' ∧ KAB n₀ Ba Bb W W') ∨ (e = .returned (.bool false) ∧ Jx (pre ++ [x]) W'))
    (W : World) (hn₀ : n₀ ≤ W.heap.size) (hJ : ∀ pre wr W', J pre wr → wr.grownBy W' none → J pre W') (hBa : W.cell? ⟨Ba, 0, none⟩ = some (.slice Aa us.length ca)) (hBb : W.cell? ⟨Bb, 0, none⟩ = some (.slice Ab bs.length cb)) (hBal : Ba < W.heap.size) (hBbl : Bb < W.heap.size)
    (hva : VA W n₀ Aa us) (hvb : VA W n₀ Ab bs) (h0 : J [] W) :
    CallsIn Fence.wide n Tryz.prog 81 #[.func (.yield l) #[] #[], .pointer (some ⟨Ba, 0, none⟩), .pointer (some ⟨Bb, 0, none⟩)] W fun e W' => (∃ v, e = .returned v) ∧
      ((∃ ys, ys = mg us bs ∧ J ys W') ∨ (∃ pre, pre <+: mg us bs ∧ Jx pre W')) := by
  have hla := hva.len
  have hlb := hvb.len
  refine callsIn_of_wp Tryz.func81 rfl trivial ?_ rfl
  simp only [Tryz.ntmps81, List.size_toArray, List.length_cons, List.length_nil, Nat.reduceAdd, Nat.reduceSub, Array.replicate_succ, Array.replicate_zero, List.push_toArray, List.append_toArray, List.nil_append, List.cons_append]
  gi_wp2
  gi_loopw [4, 5] (fun p q wr => ∃ (i j : Nat) (pre : List (Int × Int)), i ≤ us.length ∧ j ≤ bs.length ∧ p = .int .i64 i ∧ q = .int .i64 j ∧ Hid (pre ++ mg (us.drop i) (bs.drop j) = mg us bs) ∧ J pre wr ∧ KAB n₀ Ba Bb W wr)
    (fun p q wr => (us.length - (intOf p).toNat) + (bs.length - (intOf q).toNat))
  case atStart => exact ⟨0, 0, [], Nat.zero_le _, Nat.zero_le _, rfl, rfl, Lib.hid (by simp), h0, KAB.refl _ _ _ _⟩
  case round =>
    obtain ⟨i, j, pre, hi, hj, rfl, rfl, hx, hJs, hbw⟩ := hrel
    have hBa' : wr.cell? ⟨Ba, 0, none⟩ = some (.slice Aa us.length ca) := (World.cell?_of_block (a := ⟨Ba, 0, none⟩) hbw.a).trans hBa
    have hBb' : wr.cell? ⟨Bb, 0, none⟩ = some (.slice Ab bs.length cb) := (World.cell?_of_block (a := ⟨Bb, 0, none⟩) hbw.b).trans hBb
    have hva' := hva.below hbw.below (Nat.le_refl _)
    have hvb' := hvb.below hbw.below (Nat.le_refl _)
    have hsz := hbw.size
    have hsz' : n₀ ≤ wr.heap.size := by omega
    have hBaa : ∀ o, (wr.alloc o).cell? ⟨Ba, 0, none⟩ = some (.slice Aa us.length ca) := fun o => (World.cell?_alloc_lt wr o ⟨Ba, 0, none⟩ (by show Ba < wr.heap.size; omega)).trans hBa'
    have hBba : ∀ o, (wr.alloc o).cell? ⟨Bb, 0, none⟩ = some (.slice Ab bs.length cb) := fun o => (World.cell?_alloc_lt wr o ⟨Bb, 0, none⟩ (by show Bb < wr.heap.size; omega)).trans hBb'
    by_cases hia : i < us.length
    · obtain ⟨ba, oa, xa, ya, hAa, hba, hga, ha0, ha1, ha0a, ha1a⟩ := hva'.ata hsz' hia
      have hGA := Lib.hid hga
      clear hga
      by_cases hjb : j < bs.length
      · obtain ⟨bb, ob, xb, yb, hAb, hbb, hgb, hb0, hb1, hb0a, hb1a⟩ := hvb'.ata hsz' hjb
        have hGB := Lib.hid hgb
        clear hgb
        by_cases hlt : xa < xb
        · have hx' := hx.out
          rw [mg_left hGA.out hGB.out hlt] at hx'
          have HX := Lib.hid hx'
          clear hx'
          have ej : ((j : Int) == (bs.length : Int)) = false := by rw [beq_eq_false_iff_ne]; omega
          subst hAa
          subst hAb
          gi_wp2
          gi_quiet (fail)
          gi_wp2
          obtain ⟨fn, tmps, assign, body, hy, hR⟩ := hY pre (xa, ya) ((((wr.alloc (.cells #[.int .i64 0, .int .i64 0] 69)).drewN nq).setCell ⟨wr.heap.size, 0, none⟩ (.int .i64 xa)).setCell ⟨wr.heap.size, 1, none⟩ (.int .i64 ya)) (hJ _ _ _ hJs (grown_var _ _ _ _ _)) (by rw [← HX.out]; simp)
          dsimp only at hy
          have hgv : KAB n₀ Ba Bb wr ((((wr.alloc (.cells #[.int .i64 0, .int .i64 0] 69)).drewN nq).setCell ⟨wr.heap.size, 0, none⟩ (.int .i64 xa)).setCell ⟨wr.heap.size, 1, none⟩ (.int .i64 ya)) := KAB.grown (grown_var _ _ _ _ _) hsz' (by omega) (by omega) (fun _ e => by cases e)
          rw [hy]
          gi_wp2
          refine hR.mono ?_
          rintro e W3 (⟨rfl, hJ3, hk3⟩ | ⟨rfl, hJx3⟩)
          · gi_wp2
            go_roundw
            case rel => exact ⟨i + 1, j, pre ++ [(xa, ya)], by omega, by omega, by go_num, by go_num, Lib.hid (by rw [← HX.out]; simp), hJ3, (hbw.trans hgv).trans hk3⟩
            case measure => simp [intOf]; omega
          · gi_wp2
            refine bodyPost_ret (results_none rfl _ _ _) rfl ?_
            exact ⟨⟨_, rfl⟩, .inr ⟨pre ++ [(xa, ya)], ⟨_, by rw [List.append_assoc, List.singleton_append]; exact HX.out⟩, hJx3⟩⟩
        · by_cases hgt : xb < xa
          · have hx' := hx.out
            rw [mg_right hGA.out hGB.out hgt] at hx'
            have HX := Lib.hid hx'
            clear hx'
            have ej : ((j : Int) == (bs.length : Int)) = false := by rw [beq_eq_false_iff_ne]; omega
            have ei : ((i : Int) == (us.length : Int)) = false := by rw [beq_eq_false_iff_ne]; omega
            have dxaxb : decide ((xa : Int) < xb) = false := by simp; omega
            subst hAa
            subst hAb
            gi_wp2
            gi_quiet (fail)
            revert nq
            intro q1
            gi_wp2
            gi_quiet (fail)
            revert nq
            intro q2
            gi_wp2
            obtain ⟨fn, tmps, assign, body, hy, hR⟩ := hY pre (xb, yb) ((((wr.alloc (.cells #[.int .i64 0, .int .i64 0] 69)).drewN (q1 + q2)).setCell ⟨wr.heap.size, 0, none⟩ (.int .i64 xb)).setCell ⟨wr.heap.size, 1, none⟩ (.int .i64 yb)) (hJ _ _ _ hJs (grown_var _ _ _ _ _)) (by rw [← HX.out]; simp)
            dsimp only at hy
            have hgv : KAB n₀ Ba Bb wr ((((wr.alloc (.cells #[.int .i64 0, .int .i64 0] 69)).drewN (q1 + q2)).setCell ⟨wr.heap.size, 0, none⟩ (.int .i64 xb)).setCell ⟨wr.heap.size, 1, none⟩ (.int .i64 yb)) := KAB.grown (grown_var _ _ _ _ _) hsz' (by omega) (by omega) (fun _ e => by cases e)
            rw [hy]
            gi_wp2
            refine hR.mono ?_
            rintro e W3 (⟨rfl, hJ3, hk3⟩ | ⟨rfl, hJx3⟩)
            · gi_wp2
              go_roundw
              case rel => exact ⟨i, j + 1, pre ++ [(xb, yb)], by omega, by omega, by go_num, by go_num, Lib.hid (by rw [← HX.out]; simp), hJ3, (hbw.trans hgv).trans hk3⟩
              case measure => simp [intOf]; omega
            · gi_wp2
              refine bodyPost_ret (results_none rfl _ _ _) rfl ?_
              exact ⟨⟨_, rfl⟩, .inr ⟨pre ++ [(xb, yb)], ⟨_, by rw [List.append_assoc, List.singleton_append]; exact HX.out⟩, hJx3⟩⟩
          · have hx' := hx.out
            rw [mg_both hGA.out hGB.out (by omega)] at hx'
            have HX := Lib.hid hx'
            clear hx'
            have ej : ((j : Int) == (bs.length : Int)) = false := by rw [beq_eq_false_iff_ne]; omega
            have ei : ((i : Int) == (us.length : Int)) = false := by rw [beq_eq_false_iff_ne]; omega
            have dxaxb : decide ((xa : Int) < xb) = false := by simp; omega
            have dxbxa : decide ((xb : Int) < xa) = false := by simp; omega
            subst hAa
            subst hAb
            gi_wp2
            gi_quiet (fail)
            revert nq
            intro q1
            gi_wp2
            gi_quiet (fail)
            revert nq
            intro q2
            gi_wp2
            gi_region
            generalize hz : (if ya < yb then yb else ya) = z at HX ⊢
            clear hz
            gi_wp2
            obtain ⟨fn, tmps, assign, body, hy, hR⟩ := hY pre (xa, z) ((((wr.alloc (.cells #[.int .i64 0, .int .i64 0] 69)).drewN (q1 + q2 + 1)).setCell ⟨wr.heap.size, 0, none⟩ (.int .i64 xa)).setCell ⟨wr.heap.size, 1, none⟩ (.int .i64 z)) (hJ _ _ _ hJs (grown_var _ _ _ _ _)) (by rw [← HX.out]; simp)
            dsimp only at hy
            have hgv : KAB n₀ Ba Bb wr ((((wr.alloc (.cells #[.int .i64 0, .int .i64 0] 69)).drewN (q1 + q2 + 1)).setCell ⟨wr.heap.size, 0, none⟩ (.int .i64 xa)).setCell ⟨wr.heap.size, 1, none⟩ (.int .i64 z)) := KAB.grown (grown_var _ _ _ _ _) hsz' (by omega) (by omega) (fun _ e => by cases e)
            rw [hy]
            gi_wp2
            refine hR.mono ?_
            rintro e W3 (⟨rfl, hJ3, hk3⟩ | ⟨rfl, hJx3⟩)
            · gi_wp2
              go_roundw
              case rel => exact ⟨i + 1, j + 1, pre ++ [(xa, z)], by omega, by omega, by go_num, by go_num, Lib.hid (by rw [← HX.out]; simp), hJ3, (hbw.trans hgv).trans hk3⟩
              case measure => simp [intOf]; omega
            · gi_wp2
              refine bodyPost_ret (results_none rfl _ _ _) rfl ?_
              exact ⟨⟨_, rfl⟩, .inr ⟨pre ++ [(xa, z)], ⟨_, by rw [List.append_assoc, List.singleton_append]; exact HX.out⟩, hJx3⟩⟩
      · have hje : bs.length ≤ j := by omega
        have hx' := hx.out
        rw [mg_left_end hGA.out hje] at hx'
        have HX := Lib.hid hx'
        clear hx'
        have ej : ((j : Int) == (bs.length : Int)) = true := by rw [beq_iff_eq]; omega
        subst hAa
        gi_wp2
        gi_quiet (fail)
        gi_wp2
        obtain ⟨fn, tmps, assign, body, hy, hR⟩ := hY pre (xa, ya) ((((wr.alloc (.cells #[.int .i64 0, .int .i64 0] 69)).drewN nq).setCell ⟨wr.heap.size, 0, none⟩ (.int .i64 xa)).setCell ⟨wr.heap.size, 1, none⟩ (.int .i64 ya)) (hJ _ _ _ hJs (grown_var _ _ _ _ _)) (by rw [← HX.out]; simp)
        dsimp only at hy
        have hgv : KAB n₀ Ba Bb wr ((((wr.alloc (.cells #[.int .i64 0, .int .i64 0] 69)).drewN nq).setCell ⟨wr.heap.size, 0, none⟩ (.int .i64 xa)).setCell ⟨wr.heap.size, 1, none⟩ (.int .i64 ya)) := KAB.grown (grown_var _ _ _ _ _) hsz' (by omega) (by omega) (fun _ e => by cases e)
        rw [hy]
        gi_wp2
        refine hR.mono ?_
        rintro e W3 (⟨rfl, hJ3, hk3⟩ | ⟨rfl, hJx3⟩)
        · gi_wp2
          go_roundw
          case rel => exact ⟨i + 1, j, pre ++ [(xa, ya)], by omega, by omega, by go_num, by go_num, Lib.hid (by rw [← HX.out]; simp), hJ3, (hbw.trans hgv).trans hk3⟩
          case measure => simp [intOf]; omega
        · gi_wp2
          refine bodyPost_ret (results_none rfl _ _ _) rfl ?_
          exact ⟨⟨_, rfl⟩, .inr ⟨pre ++ [(xa, ya)], ⟨_, by rw [List.append_assoc, List.singleton_append]; exact HX.out⟩, hJx3⟩⟩
    · have hie : us.length ≤ i := by omega
      by_cases hjb : j < bs.length
      · obtain ⟨bb, ob, xb, yb, hAb, hbb, hgb, hb0, hb1, hb0a, hb1a⟩ := hvb'.ata hsz' hjb
        have hGB := Lib.hid hgb
        clear hgb
        have hx' := hx.out
        rw [mg_right_end hGB.out hie] at hx'
        have HX := Lib.hid hx'
        clear hx'
        have ej : ((j : Int) == (bs.length : Int)) = false := by rw [beq_eq_false_iff_ne]; omega
        have ei : ((i : Int) == (us.length : Int)) = true := by rw [beq_iff_eq]; omega
        have dil : decide ((i : Int) < (us.length : Int)) = false := by simp; omega
        subst hAb
        gi_wp2
        gi_quiet (fail)
        revert nq
        intro q1
        gi_wp2
        gi_quiet (fail)
        revert nq
        intro q2
        gi_wp2
        obtain ⟨fn, tmps, assign, body, hy, hR⟩ := hY pre (xb, yb) ((((wr.alloc (.cells #[.int .i64 0, .int .i64 0] 69)).drewN (q1 + q2)).setCell ⟨wr.heap.size, 0, none⟩ (.int .i64 xb)).setCell ⟨wr.heap.size, 1, none⟩ (.int .i64 yb)) (hJ _ _ _ hJs (grown_var _ _ _ _ _)) (by rw [← HX.out]; simp)
        dsimp only at hy
        have hgv : KAB n₀ Ba Bb wr ((((wr.alloc (.cells #[.int .i64 0, .int .i64 0] 69)).drewN (q1 + q2)).setCell ⟨wr.heap.size, 0, none⟩ (.int .i64 xb)).setCell ⟨wr.heap.size, 1, none⟩ (.int .i64 yb)) := KAB.grown (grown_var _ _ _ _ _) hsz' (by omega) (by omega) (fun _ e => by cases e)
        rw [hy]
        gi_wp2
        refine hR.mono ?_
        rintro e W3 (⟨rfl, hJ3, hk3⟩ | ⟨rfl, hJx3⟩)
        · gi_wp2
          go_roundw
          case rel => exact ⟨i, j + 1, pre ++ [(xb, yb)], by omega, by omega, by go_num, by go_num, Lib.hid (by rw [← HX.out]; simp), hJ3, (hbw.trans hgv).trans hk3⟩
          case measure => simp [intOf]; omega
        · gi_wp2
          refine bodyPost_ret (results_none rfl _ _ _) rfl ?_
          exact ⟨⟨_, rfl⟩, .inr ⟨pre ++ [(xb, yb)], ⟨_, by rw [List.append_assoc, List.singleton_append]; exact HX.out⟩, hJx3⟩⟩
      · have hx' := hx.out
        rw [mg_end hie (by omega), List.append_nil] at hx'
        have HX := Lib.hid hx'
        clear hx'
        gi_wp2
        go_end0
        exact ⟨⟨_, rfl⟩, .inl ⟨pre, HX.out, hJs⟩⟩

/-- What merged hands back is an iterator over the merged lists. -/
theorem mg_stops (n : Nat) (hn : 1 ≤ n) (Ba Bb n₀ : Nat) (Aa Ab : Option Addr) (ca cb : Nat) (us bs : List (Int × Int)) (w : World) (hn₀ : n₀ ≤ w.heap.size)
    (hBa : w.cell? ⟨Ba, 0, none⟩ = some (.slice Aa us.length ca)) (hBb : w.cell? ⟨Bb, 0, none⟩ = some (.slice Ab bs.length cb)) (hBal : Ba < w.heap.size) (hBbl : Bb < w.heap.size) (hva : VA w n₀ Aa us) (hvb : VA w n₀ Ab bs) :
    SeqStopsK Fence.wide n Tryz.prog 81 #[.pointer (some ⟨Ba, 0, none⟩), .pointer (some ⟨Bb, 0, none⟩)] (fun x : Int × Int => #[.agg #[.int .i64 x.1, .int .i64 x.2]]) (KAB n₀ Ba Bb) (fun ys => ys = mg us bs) (fun pre => pre <+: mg us bs) (mg us bs).length w :=
  fun l J Jx W hW hJ _ hY h0 => by
    have hb : Below n₀ w W := hW.mono hn₀
    exact mg1_in n hn l Ba Bb n₀ Aa Ab ca cb us bs J Jx hY W (Nat.le_trans hn₀ hW.size) (fun pre wr W' hs hg => hJ pre wr W' none hs hg (fun _ e => by cases e))
      ((hW.cell (p := ⟨Ba, 0, none⟩) hBal).trans hBa) ((hW.cell (p := ⟨Bb, 0, none⟩) hBbl).trans hBb) (Nat.lt_of_lt_of_le hBal hW.size) (Nat.lt_of_lt_of_le hBbl hW.size) (hva.below hb (Nat.le_refl _)) (hvb.below hb (Nat.le_refl _)) h0
end Go.Proofs.YtipnabbdhmapkaaGreatDoor
