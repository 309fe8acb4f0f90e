/- hasForm: whether a node has the fields of its kind and no others. -/
import Derived.Test.YtobaeeobfcffoaaDoorNdi
import Derived.Deep.QuietTactic
import Derived.BigQuiet
namespace Go.Proofs.YtobaeeobfcffoaaDoor
open Go.RowKit

def shI (k : Int) : Bool := k == 0 || k == 12
def shN (k : Int) : Bool := k == 3
def shL (k : Int) : Int := if k = 2 then 1 else if k = 3 then -1 else 0
/-- The table of the kinds lies in block 0. -/
structure Shapes (w : World) : Prop where
  s0 : ∀ k : Nat, k < 13 → w.cell? ⟨0, k * 5, none⟩ = some (.bool (shI k))
  s1 : ∀ k : Nat, k < 13 → w.cell? ⟨0, k * 5 + 1, none⟩ = some (.bool (shN k))
  s2 : ∀ k : Nat, k < 13 → w.cell? ⟨0, k * 5 + 2, none⟩ = some (.int .i64 (shL k))
  s3 : ∀ k : Nat, k < 13 → w.cell? ⟨0, k * 5 + 3, none⟩ = some (.int .i64 (kidsN k))
  s4 : ShapesB w
theorem Shapes.below {w w' : World} {B : Nat} (h : Shapes w) (hb : Below B w w') (h0 : 0 < B) : Shapes w' :=
  ⟨fun k hk => (hb.cell (p := ⟨0, k * 5, none⟩) h0).trans (h.s0 k hk), fun k hk => (hb.cell (p := ⟨0, k * 5 + 1, none⟩) h0).trans (h.s1 k hk), fun k hk => (hb.cell (p := ⟨0, k * 5 + 2, none⟩) h0).trans (h.s2 k hk),
    fun k hk => (hb.cell (p := ⟨0, k * 5 + 3, none⟩) h0).trans (h.s3 k hk), fun k hk => (hb.cell (p := ⟨0, k * 5 + 4, none⟩) h0).trans (h.s4 k hk)⟩
/-- Whether a node has its form. -/
def formB (k i : Int) (nm : ByteArray) (nl nk : Nat) : Bool := isKd k && ((shI k || i == 0) && ((shN k || nm.toList.isEmpty) && ((shL k == -1 || shL k == (nl : Int)) && kidsN k == (nk : Int))))
theorem ret_b {a b : Bool} (h : a = b) : Ending.returned (.bool a) = .returned (.bool b) := by rw [h]
theorem isKd_nat {k : Int} (h : isKd k = true) : ∃ kn : Nat, k = kn ∧ kn < 13 := by
  unfold isKd at h
  simp at h
  exact ⟨k.toNat, by omega, by omega⟩

end Go.Proofs.YtobaeeobfcffoaaDoor
