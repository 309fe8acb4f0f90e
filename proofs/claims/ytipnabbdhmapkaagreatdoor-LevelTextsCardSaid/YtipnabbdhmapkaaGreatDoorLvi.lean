/- A variable that holds a level; few of one level. -/
import Derived.Test.YtipnabbdhmapkaaGreatDoorLcm
namespace Go.Proofs.YtipnabbdhmapkaaGreatDoor
open Go.RowKit

/-- A variable that holds a level, and the level's list. -/
structure LvIn (w : World) (b : Nat) (c : Int) (A : Option Addr) (cap : Nat) (vs : List (Int × Int)) : Prop where
  at_ : LvAt w b c A vs.length cap
  va : VA w w.heap.size A vs
theorem LvIn.below {w w' : World} {b : Nat} {c : Int} {A : Option Addr} {cap : Nat} {vs : List (Int × Int)} (h : LvIn w b c A cap vs) (hb : Below w.heap.size w w') : LvIn w' b c A cap vs := ⟨h.at_.below hb, h.va.next0 hb⟩
theorem LvIn.new {w : World} {c : Int} {A : Option Addr} {cap : Nat} {vs : List (Int × Int)} (h : VA w w.heap.size A vs) : LvIn (w.alloc (.cells #[.int .i64 c, .slice A vs.length cap] 24)) w.heap.size c A cap vs := ⟨LvAt.new w c A vs.length cap, h.box⟩
theorem LvIn.next {w w' : World} {b : Nat} {c : Int} {A : Option Addr} {cap : Nat} {vs : List (Int × Int)} (h : LvIn w b c A cap vs) {o : Obj} (hb : Below (w.alloc o).heap.size (w.alloc o) w') : LvIn w' b c A cap vs := ⟨h.at_.next hb, h.va.next hb⟩
theorem same_in {W : World} {b1 b2 : Nat} {c : Int} {A1 A2 : Option Addr} {cap1 cap2 : Nat} {vs : List (Int × Int)} (h1 : LvIn W b1 c A1 cap1 vs) (h2 : LvIn W b2 c A2 cap2 vs) :
    Calls Tryz.prog 21 #[.agg #[.int .i64 c, .slice A1 vs.length cap1], .agg #[.int .i64 c, .slice A2 vs.length cap2]] W fun e w' => e = .returned (.bool true) ∧ Below W.heap.size W w' := by
  have h := rsame_any c A1 cap1 vs c A2 cap2 vs W.heap.size W h1.va h2.va (Nat.le_refl _)
  rwa [sameB_refl] at h
theorem few_one (b : Nat) (c1 : Int) (A1 : Option Addr) (n1 cap1 k : Nat) (w : World)
    (h0 : w.cell? ⟨b, 0, none⟩ = some (.int .i64 c1)) (h1 : w.cell? ⟨b, 1, none⟩ = some (.slice A1 n1 cap1)) (hb : b < w.heap.size) :
    Calls Tryz.prog 13 #[.slice (some ⟨b, 0, none⟩) 1 k] w fun e w' => e = .returned (.bool (decide (n1 ≤ 12))) ∧ Below w.heap.size w w' := by
  have hl : LA w w.heap.size (some ⟨b, 0, none⟩) [(c1, A1, n1, cap1)] := ⟨by simp, fun _ => ⟨b, 0, rfl, hb, fun j c' a' n' k' hj => by
    rcases j with _ | j
    · simp at hj
      obtain ⟨rfl, rfl, rfl, rfl⟩ := hj
      exact ⟨by simpa using h0, by simpa using h1⟩
    · simp at hj⟩⟩
  have hc := few_any (some ⟨b, 0, none⟩) k [(c1, A1, n1, cap1)] w.heap.size w hl (Nat.le_refl _)
  have e : (!bigB [(c1, A1, n1, cap1)]) = decide (n1 ≤ 12) := by
    simp only [bigB, List.any_cons, List.any_nil, Bool.or_false]
    by_cases hn1 : n1 ≤ 12 <;> simp [hn1] <;> omega
  rwa [e] at hc
end Go.Proofs.YtipnabbdhmapkaaGreatDoor
