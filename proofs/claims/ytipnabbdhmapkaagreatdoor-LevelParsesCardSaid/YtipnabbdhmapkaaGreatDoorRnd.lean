/- A drawn region inside a round of a loop over an iterator: by the plain walk. -/
import Derived.Test.YtipnabbdhmapkaaGreatDoorProg
import Derived.RegionTactic
import Derived.TacticsIn
import Derived.RangeFuncCalls
import Derived.OrdersIn
namespace Go.Proofs.YtipnabbdhmapkaaGreatDoor
open Go.RowKit

/-- Only what falls through: for a region that can neither panic nor leave. -/
def OnlyN (K : Act → World → Prop) : Exit → Act → World → Prop
  | .normal => K
  | _ => fun _ _ => False
theorem wp_onlyN {P : Program} {c : Code} {Q : Exit → Act → World → Prop} {a : Act} {w : World} (h : c.wp P (OnlyN (Q .normal)) a w) : c.wp P Q a w :=
  wp_mono h fun e a w h => by
    cases e with
    | normal => exact h
    | _ => exact h.elim
theorem onlyN_out (K : Act → World → Prop) : ¬ LetsOut (OnlyN K) := fun ⟨_, _, h⟩ => h

/-- The operation defers nothing. -/
def noDefer (o : Oper) : Bool := match o.op with
  | .defer _ => false
  | _ => true
theorem noDefer_of {ops : Array Oper} (h : ops.all noDefer = true) (i : Nat) (o : Oper) (c : Call) (ho : ops[i]? = some o) : o.op ≠ .defer c := by
  intro e
  have h1 := (Array.all_eq_true_iff_forall_mem.1 h) o (Array.mem_of_getElem? ho)
  simp [noDefer, e] at h1

theorem rows_round {P : Program} {l n : Nat} {row : String} {args : Array Value} {w : World} {R : Value → World → Prop} (h : Rows P row args w R) : RowsIn (Fence.wide.inRound l) n P row args w R :=
  fun c cs _ => let ⟨v, w', r, s⟩ := h c cs; ⟨v, w', r, stepsIn_wide.2 s⟩

theorem oper_round {P : Program} {o : Oper} {l n : Nat} {a : Act} {w : World} {K0 : Act → World → Prop} {K K' : Act → World → Prop} (hnd : ∀ c, o.op ≠ .defer c) (hK : ∀ a w, K a w → K' a w)
    (h : o.wp P a w K (OnlyN K0)) : o.wpIn (Fence.wide.inRound l) n P a w K' (OnlyN K0) := by
  unfold Oper.wp at h
  unfold Oper.wpIn
  refine ⟨fun _ _ => trivial, ?_⟩
  rw [Fence.inRound_round, Oper.semAt_some _ _ _ hnd]
  generalize (execOp a.eval o).run P w = r at *
  cases r with
  | ok x w' =>
    cases x <;> simp only [Oper.upon, Oper.uponIn] at h ⊢ <;>
      first
        | exact hK _ _ h
        | exact h
        | exact ⟨fun h0 => absurd h0 (by simp [Fence.wide]), ((callsIn_wide.2 h).inRound l).mono (fun e w'' he => by cases e <;> first | exact hK _ _ he | exact he)⟩
        | exact ⟨fun h0 => absurd h0 (by simp [Fence.wide]), (rows_round h).mono (fun _ _ he => hK _ _ he)⟩
  | halt x w' => cases x <;> simp only [Oper.upon, Oper.uponIn] at h ⊢ <;> exact h

theorem any_round {P : Program} {md : Region.Mode} {ops : Array Oper} {K0 : Act → World → Prop} {l n : Nat} (hnd : ∀ (i : Nat) (o : Oper) c, ops[i]? = some o → o.op ≠ .defer c) :
    ∀ (fuel : Nat) (listed : Array Bool) (a : Act) (w : World), wpAny P md ops (OnlyN K0) fuel listed a w → wpAnyIn (Fence.wide.inRound l) n P md ops (OnlyN K0) fuel listed a w
  | 0, _, _, _, h => h
  | fuel + 1, listed, a, w, h => ⟨h.1, fun i hi => by
      have h2 := h.2 i hi
      unfold wpOp at h2
      unfold wpOpIn
      cases ho : ops[i]? with
      | none =>
        simp only [ho] at h2 ⊢
        exact any_round hnd fuel _ _ _ h2
      | some o =>
        simp only [ho] at h2 ⊢
        split
        · rename_i hw
          simp only [hw, if_true] at h2
          rcases h2 with h2 | h2
          · exact oper_round (fun c => hnd i o c ho) (fun a w h => any_round hnd fuel _ _ _ h) h2
          · exact absurd h2.2 (onlyN_out _)
        · rename_i hw
          simp only [hw] at h2
          exact ⟨fun _ _ => trivial, any_round hnd fuel _ _ _ h2⟩⟩

/-- A region that draws, inside a round, whose operations defer nothing: by the plain orders. -/
theorem region_round {P : Program} {ops : Array Oper} {id l n : Nat} {Q : Exit → Act → World → Prop} {a : Act} {w : World} (hm : P.follows .mixedOrders = true) (hnd : ops.all noDefer = true)
    (h : wpAny P .any ops (OnlyN (Q .normal)) ops.size (Array.replicate ops.size false) a w.drew) : (Code.region id ops true).wpIn (Fence.wide.inRound l) n P Q a w :=
  wpIn_mono (wpIn_region_any hm (any_round (noDefer_of hnd) _ _ _ _ h)) fun e a w h => by
    cases e with
    | normal => exact h
    | _ => exact h.elim
end Go.Proofs.YtipnabbdhmapkaaGreatDoor
