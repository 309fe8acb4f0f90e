/- nodes: the closure. -/
import Derived.Test.YtbiifkpelldciaaDoorPre
import Derived.RangeFuncBox
import Derived.RangeFuncLeaves
import Derived.RangeFuncNested
import Derived.Shelf.Abstract
import Derived.OwnWalkIn
import Derived.TacticsInMore
import Derived.LoopNIn
import Derived.LoopIn
import Derived.Sort.QuietIn
import Derived.BigRegionIn
namespace Go.Proofs.YtbiifkpelldciaaDoor
open Go.RowKit Go.Shelf
attribute [local go_sem] Oper.semAt_some

set_option maxRecDepth 100000 in
set_option maxHeartbeats 1000000 in
theorem nodes_in (n : Nat) (k i : Int) (nm : ByteArray) (AL : Option Addr) (nl cl : Nat) (AK : Option Addr) (nk ck : Nat) (w : World) :
    CallsIn Fence.wide n Tryd.prog 43 #[.agg #[.int .i64 k, .int .i64 i, .string nm, .slice AL nl cl, .slice AK nk ck]] w fun e w' => e = .returned (.func (.func 62) #[] #[.pointer (some ⟨w.heap.size, 0, none⟩)]) ∧ w' = w.alloc (.cells #[.int .i64 k, .int .i64 i, .string nm, .slice AL nl cl, .slice AK nk ck] 27) := by
  refine callsIn_of_wp Tryd.func43 rfl trivial ?_ rfl
  simp only [Tryd.ntmps43, List.size_toArray, List.length_cons, List.length_nil, Nat.reduceAdd, Nat.reduceSub, Array.replicate_succ, Array.replicate_zero, List.push_toArray, List.append_toArray, List.nil_append, List.cons_append]
  gi_wp2
  go_ret
  exact ⟨rfl, rfl⟩
end Go.Proofs.YtbiifkpelldciaaDoor
