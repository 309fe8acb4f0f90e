/- slices.Backward at pairs: the iterator. -/
import Derived.Test.YtipnabbdhmapkaaGreatDoorMrg
namespace Go.Proofs.YtipnabbdhmapkaaGreatDoor
open Go.RowKit Go.Shelf
attribute [local go_sem] Oper.semAt_some

/-- The places of the first k elements, the last first. -/
def bwF (n : Nat) : (k : Nat) → k ≤ n → List (Fin n)
  | 0, _ => []
  | k + 1, h => ⟨k, h⟩ :: bwF n k (Nat.le_of_succ_le h)
theorem bwF_at {n k : Nat} (hk : k ≤ n) (h0 : 0 < k) : bwF n k hk = ⟨k - 1, by omega⟩ :: bwF n (k - 1) (by omega) := by
  obtain ⟨q, rfl⟩ : ∃ q, k = q + 1 := ⟨k - 1, by omega⟩
  rfl
theorem bwF_len {n : Nat} : ∀ {k : Nat} (hk : k ≤ n), (bwF n k hk).length = k
  | 0, _ => rfl
  | k + 1, h => by rw [bwF, List.length_cons, bwF_len]
theorem bwF_get (vs : List (Int × Int)) : ∀ (k : Nat) (hk : k ≤ vs.length), (bwF vs.length k hk).map (fun i => vs[i]) = (vs.take k).reverse
  | 0, _ => by simp [bwF]
  | k + 1, h => by
    rw [bwF, List.map_cons, bwF_get vs k (Nat.le_of_succ_le h), List.take_add_one, List.getElem?_eq_getElem h, Option.toList_some, List.reverse_append]
    rfl

set_option maxHeartbeats 1000000 in
theorem backward_in (n : Nat) (A : Option Addr) (na ca : Nat) (w : World) :
    CallsIn Fence.wide n Tryz.prog 64 #[.slice A na ca] w fun e w' => e = .returned (.func (.func 83) #[] #[.pointer (some ⟨w.heap.size, 0, none⟩)]) ∧ w' = w.alloc (.cells #[.slice A na ca] 22) := by
  refine callsIn_of_wp Tryz.func64 rfl trivial ?_ rfl
  simp only [Tryz.ntmps64, List.size_toArray, List.length_cons, List.length_nil, Nat.reduceAdd, Nat.reduceSub, Array.replicate_succ, Array.replicate_zero, List.push_toArray, List.append_toArray, List.nil_append, List.cons_append]
  gi_wp2
  go_ret
  exact ⟨rfl, rfl⟩

set_option maxRecDepth 100000 in
set_option maxHeartbeats 2000000 in
theorem bw1_in (n : Nat) (hn : 1 ≤ n) (l Bs n₀ : Nat) (A : Option Addr) (cap : Nat) (vs : List (Int × Int)) (J Jx : List (Fin vs.length) → World → Prop)
    (hY : ∀ pre (x : Fin vs.length) W, J pre W → pre.length < vs.length → YieldAt Fence.wide (n - 1) Tryz.prog l #[.int .i64 (x.val : Int), .agg #[.int .i64 vs[x].1, .int .i64 vs[x].2]] W fun e W' =>
      (e = .returned (.bool true) ∧ J (pre ++ [x]) W' ∧ KAB n₀ Bs Bs W W') ∨ (e = .returned (.bool false) ∧ Jx (pre ++ [x]) W'))
    (W : World) (hBs : W.cell? ⟨Bs, 0, none⟩ = some (.slice A vs.length cap)) (hv : VA W n₀ A vs) (h0 : J [] W) :
    CallsIn Fence.wide n Tryz.prog 83 #[.func (.yield l) #[] #[], .pointer (some ⟨Bs, 0, none⟩)] W fun e W' => (∃ v, e = .returned v) ∧
      ((∃ ys, ys = bwF vs.length vs.length (Nat.le_refl _) ∧ J ys W') ∨ (∃ pre, pre <+: bwF vs.length vs.length (Nat.le_refl _) ∧ Jx pre W')) := by
  have hlen := hv.len
  refine callsIn_of_wp Tryz.func83 rfl trivial ?_ rfl
  simp only [Tryz.ntmps83, List.size_toArray, List.length_cons, List.length_nil, Nat.reduceAdd, Nat.reduceSub, Array.replicate_succ, Array.replicate_zero, List.push_toArray, List.append_toArray, List.nil_append, List.cons_append]
  gi_wp2
  gi_loopw [3] (fun p wr => ∃ (k : Nat) (hk : k ≤ vs.length) (pre : List (Fin vs.length)), p = .int .i64 ((k : Int) - 1) ∧ Hid (pre ++ bwF vs.length k hk = bwF vs.length vs.length (Nat.le_refl _)) ∧ J pre wr ∧ KAB n₀ Bs Bs W wr)
    (fun p _ => (intOf p + 1).toNat)
  case atStart => exact ⟨vs.length, Nat.le_refl _, [], rfl, Lib.hid (by simp), h0, KAB.refl _ _ _ _⟩
  case round =>
    obtain ⟨k, hk, pre, rfl, hx, hJs, hbw⟩ := hrel
    have hBs' : wr.cell? ⟨Bs, 0, none⟩ = some (.slice A vs.length cap) := (World.cell?_of_block (a := ⟨Bs, 0, none⟩) hbw.a).trans hBs
    have hv' := hv.below hbw.below (Nat.le_refl _)
    by_cases hk0 : 0 < k
    · obtain ⟨b, off, x, y, rfl, hb, hg, hc0, hc1⟩ := hv'.at_ (k := k - 1) (by omega)
      have hx' := hx.out
      rw [bwF_at hk hk0] at hx'
      have hll : pre.length < vs.length := by
        have := congrArg List.length hx'
        rw [bwF_len, List.length_append, List.length_cons] at this
        omega
      obtain ⟨fn, tmps, assign, body, hy, hR⟩ := hY pre ⟨k - 1, by omega⟩ wr hJs hll
      have he : vs[k - 1]'(by omega) = (x, y) := (List.getElem?_eq_some_iff.1 hg).2
      dsimp only [Fin.getElem_fin] at hy
      rw [he] at hy
      have e1 : (((k - 1 : Nat) : Nat) : Int) = (k : Int) - 1 := by omega
      rw [e1] at hy
      have HX := Lib.hid hx'
      clear hx' hg e1 he
      have h1 : (0 : Int) ≤ (k : Int) - 1 := by omega
      have h2 : (k : Int) - 1 < (vs.length : Int) := by omega
      gi_wp2
      refine hR.mono ?_
      rintro e W3 (⟨rfl, hJ3, hk3⟩ | ⟨rfl, hJx3⟩)
      · gi_wp2
        go_roundw
        case rel => exact ⟨k - 1, by omega, pre ++ [⟨k - 1, by omega⟩], congrArg (Value.int .i64) (by omega), Lib.hid (by rw [← HX.out]; simp), hJ3, hbw.trans hk3⟩
        case measure => simp [intOf]; omega
      · gi_wp2
        refine bodyPost_ret (results_none rfl _ _ _) rfl ?_
        exact ⟨⟨_, rfl⟩, .inr ⟨pre ++ [_], ⟨_, by rw [List.append_assoc, List.singleton_append]; exact HX.out⟩, hJx3⟩⟩
    · obtain rfl : k = 0 := by omega
      have hx' := hx.out
      simp only [bwF, List.append_nil] at hx'
      have HX := Lib.hid hx'
      clear hx'
      gi_wp2
      go_end0
      exact ⟨⟨_, rfl⟩, .inl ⟨pre, HX.out, hJs⟩⟩

theorem bw_stops (n : Nat) (hn : 1 ≤ n) (Bs n₀ : Nat) (A : Option Addr) (cap : Nat) (vs : List (Int × Int)) (w : World) (hn₀ : n₀ ≤ w.heap.size) (hBs : w.cell? ⟨Bs, 0, none⟩ = some (.slice A vs.length cap)) (hBl : Bs < w.heap.size) (hv : VA w n₀ A vs) :
    SeqStopsK Fence.wide n Tryz.prog 83 #[.pointer (some ⟨Bs, 0, none⟩)] (fun x : Fin vs.length => #[.int .i64 (x.val : Int), .agg #[.int .i64 vs[x].1, .int .i64 vs[x].2]]) (KAB n₀ Bs Bs) (fun ys => ys = bwF vs.length vs.length (Nat.le_refl _)) (fun pre => pre <+: bwF vs.length vs.length (Nat.le_refl _)) vs.length w :=
  fun l J Jx W hW _ _ hY h0 => by
    have hb : Below n₀ w W := hW.mono hn₀
    exact bw1_in n hn l Bs n₀ A cap vs J Jx hY W ((hW.cell (p := ⟨Bs, 0, none⟩) hBl).trans hBs) (hv.below hb (Nat.le_refl _)) h0
end Go.Proofs.YtipnabbdhmapkaaGreatDoor
