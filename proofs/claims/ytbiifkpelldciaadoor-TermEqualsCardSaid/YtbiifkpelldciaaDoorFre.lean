/- free: the free variable that a node is. -/
import Derived.Test.YtbiifkpelldciaaDoorPre
import Derived.IntWalk
namespace Go.Proofs.YtbiifkpelldciaaDoor
open Go.RowKit

/-- Whether a node is a free variable. -/
def isFree (k i bn : Int) : Bool := !((k != 0) || decide (i < bn))
def freeV (k i bn : Int) : Int := if isFree k i bn = true then wrap64 (i - bn) else 0

set_option maxRecDepth 100000 in
set_option maxHeartbeats 1000000 in
theorem free_any (b off : Nat) (k i bn dp : Int) (w : World) (h0 : w.cell? ⟨b, off, none⟩ = some (.int .i64 k)) (h1 : w.cell? ⟨b, off + 1, none⟩ = some (.int .i64 i)) (hb : b < w.heap.size) :
    Calls Tryd.prog 44 #[.agg #[.pointer (some ⟨b, off, none⟩), .int .i64 bn, .int .i64 dp]] w fun e w' => e = .returned (.tuple #[.int .i64 (freeV k i bn), .bool (isFree k i bn)]) ∧ Below w.heap.size w w' := by
  have g0 : ∀ o, (w.alloc o).cell? ⟨b, off, none⟩ = some (.int .i64 k) := fun o => (World.cell?_alloc_lt w o ⟨b, off, none⟩ hb).trans h0
  have g1 : ∀ o, (w.alloc o).cell? ⟨b, off + 1, none⟩ = some (.int .i64 i) := fun o => (World.cell?_alloc_lt w o ⟨b, off + 1, none⟩ hb).trans h1
  clear h0 h1
  cases hk : (k != 0) with
  | true =>
    have e1 : isFree k i bn = false := by unfold isFree; rw [hk]; rfl
    have e2 : freeV k i bn = 0 := by unfold freeV; rw [e1, if_neg (by decide)]
    rw [e1, e2]
    clear e1 e2
    go_enter Tryd.func44, Tryd.ntmps44
    go_wp2_with fail
    go_quiet (fail)
    go_wp2_with fail
    exact bodyPost_ret (v := .tuple #[.int .i64 0, .bool false]) (by simp [results, Tryd.results44, go_sem]) rfl ⟨rfl, Below.drewN' ((Below.refl _ _).alloc (Nat.le_refl _) _) _⟩
  | false =>
    cases hi : decide (i < bn) with
    | true =>
      have e1 : isFree k i bn = false := by unfold isFree; rw [hk, hi]; rfl
      have e2 : freeV k i bn = 0 := by unfold freeV; rw [e1, if_neg (by decide)]
      rw [e1, e2]
      clear e1 e2
      go_enter Tryd.func44, Tryd.ntmps44
      go_wp2_with fail
      go_quiet (fail)
      go_wp2_with fail
      exact bodyPost_ret (v := .tuple #[.int .i64 0, .bool false]) (by simp [results, Tryd.results44, go_sem]) rfl ⟨rfl, Below.drewN' ((Below.refl _ _).alloc (Nat.le_refl _) _) _⟩
    | false =>
      have e1 : isFree k i bn = true := by unfold isFree; rw [hk, hi]; rfl
      have e2 : freeV k i bn = wrap64 (i - bn) := by unfold freeV; rw [e1, if_pos rfl]
      rw [e1, e2]
      clear e1 e2
      go_enter Tryd.func44, Tryd.ntmps44
      go_wp2_with fail
      go_quiet (fail)
      go_wp2_with fail
      go_quiet (fail)
      go_wp2_with fail
      exact bodyPost_ret (v := .tuple #[.int .i64 (wrap64 (i - bn)), .bool true]) (by simp [results, Tryd.results44, go_sem]) rfl ⟨rfl, Below.drewN' (Below.drewN' ((Below.refl _ _).alloc (Nat.le_refl _) _) _) _⟩
end Go.Proofs.YtbiifkpelldciaaDoor
