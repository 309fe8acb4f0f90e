/- hasForm: whether a node has the fields of its kind and no others. -/
import Derived.Test.YtbiifkpelldciaaDoorNdi
import Derived.Deep.QuietTactic
import Derived.BigQuiet
namespace Go.Proofs.YtbiifkpelldciaaDoor
open Go.RowKit

def shI (k : Int) : Bool := k == 0 || k == 12
def shN (k : Int) : Bool := k == 3
def shL (k : Int) : Int := if k = 2 then 1 else if k = 3 then -1 else 0
/-- The table of the kinds lies in block 0. -/
structure Shapes (w : World) : Prop where
  s0 : ∀ k : Nat, k < 13 → w.cell? ⟨0, k * 5, none⟩ = some (.bool (shI k))
  s1 : ∀ k : Nat, k < 13 → w.cell? ⟨0, k * 5 + 1, none⟩ = some (.bool (shN k))
  s2 : ∀ k : Nat, k < 13 → w.cell? ⟨0, k * 5 + 2, none⟩ = some (.int .i64 (shL k))
  s3 : ∀ k : Nat, k < 13 → w.cell? ⟨0, k * 5 + 3, none⟩ = some (.int .i64 (kidsN k))
  s4 : ShapesB w
theorem Shapes.below {w w' : World} {B : Nat} (h : Shapes w) (hb : Below B w w') (h0 : 0 < B) : Shapes w' :=
  ⟨fun k hk => (hb.cell (p := ⟨0, k * 5, none⟩) h0).trans (h.s0 k hk), fun k hk => (hb.cell (p := ⟨0, k * 5 + 1, none⟩) h0).trans (h.s1 k hk), fun k hk => (hb.cell (p := ⟨0, k * 5 + 2, none⟩) h0).trans (h.s2 k hk),
    fun k hk => (hb.cell (p := ⟨0, k * 5 + 3, none⟩) h0).trans (h.s3 k hk), fun k hk => (hb.cell (p := ⟨0, k * 5 + 4, none⟩) h0).trans (h.s4 k hk)⟩
/-- Whether a node has its form. -/
def formB (k i : Int) (nm : ByteArray) (nl nk : Nat) : Bool := isKd k && ((shI k || i == 0) && ((shN k || nm.toList.isEmpty) && ((shL k == -1 || shL k == (nl : Int)) && kidsN k == (nk : Int))))
theorem ret_b {a b : Bool} (h : a = b) : Ending.returned (.bool a) = .returned (.bool b) := by rw [h]
theorem isKd_nat {k : Int} (h : isKd k = true) : ∃ kn : Nat, k = kn ∧ kn < 13 := by
  unfold isKd at h
  simp at h
  exact ⟨k.toNat, by omega, by omega⟩

set_option maxRecDepth 100000 in
set_option maxHeartbeats 8000000 in
theorem hasForm_any (b off : Nat) (k i bn dp : Int) (nm : ByteArray) (AL : Option Addr) (nl cl : Nat) (AK : Option Addr) (nk ck : Nat) (w : World) (h0 : w.cell? ⟨b, off, none⟩ = some (.int .i64 k)) (h1 : w.cell? ⟨b, off + 1, none⟩ = some (.int .i64 i))
    (h2 : w.cell? ⟨b, off + 2, none⟩ = some (.string nm)) (h3 : w.cell? ⟨b, off + 3, none⟩ = some (.slice AL nl cl)) (h4 : w.cell? ⟨b, off + 4, none⟩ = some (.slice AK nk ck)) (hsh : Shapes w) (hw : 0 < w.heap.size) :
    Calls Tryd.prog 69 #[.agg #[.pointer (some ⟨b, off, none⟩), .int .i64 bn, .int .i64 dp]] w fun e w' => e = .returned (.bool (formB k i nm nl nk)) ∧ Below w.heap.size w w' := by
  have hb : b < w.heap.size := World.block_lt_of_cell? w ⟨b, off, none⟩ h0
  have hbe : ∀ o, Below w.heap.size w (w.alloc o) := fun o => (Below.refl _ _).alloc (Nat.le_refl _) _
  have g0 : ∀ o, (w.alloc o).cell? ⟨b, off, none⟩ = some (.int .i64 k) := fun o => (World.cell?_alloc_lt w o ⟨b, off, none⟩ hb).trans h0
  have g1 : ∀ o, (w.alloc o).cell? ⟨b, off + 1, none⟩ = some (.int .i64 i) := fun o => (World.cell?_alloc_lt w o ⟨b, off + 1, none⟩ hb).trans h1
  have g2 : ∀ o, (w.alloc o).cell? ⟨b, off + 2, none⟩ = some (.string nm) := fun o => (World.cell?_alloc_lt w o ⟨b, off + 2, none⟩ hb).trans h2
  have g3 : ∀ o, (w.alloc o).cell? ⟨b, off + 3, none⟩ = some (.slice AL nl cl) := fun o => (World.cell?_alloc_lt w o ⟨b, off + 3, none⟩ hb).trans h3
  have g4 : ∀ o, (w.alloc o).cell? ⟨b, off + 4, none⟩ = some (.slice AK nk ck) := fun o => (World.cell?_alloc_lt w o ⟨b, off + 4, none⟩ hb).trans h4
  have k0 : ∀ o o', ((w.alloc o).alloc o').cell? ⟨b, off, none⟩ = some (.int .i64 k) := fun o o' => (World.cell?_alloc_lt (w.alloc o) o' ⟨b, off, none⟩ (by simp; omega)).trans (g0 o)
  have k1 : ∀ o o', ((w.alloc o).alloc o').cell? ⟨b, off + 1, none⟩ = some (.int .i64 i) := fun o o' => (World.cell?_alloc_lt (w.alloc o) o' ⟨b, off + 1, none⟩ (by simp; omega)).trans (g1 o)
  have k2 : ∀ o o', ((w.alloc o).alloc o').cell? ⟨b, off + 2, none⟩ = some (.string nm) := fun o o' => (World.cell?_alloc_lt (w.alloc o) o' ⟨b, off + 2, none⟩ (by simp; omega)).trans (g2 o)
  have k3 : ∀ o o', ((w.alloc o).alloc o').cell? ⟨b, off + 3, none⟩ = some (.slice AL nl cl) := fun o o' => (World.cell?_alloc_lt (w.alloc o) o' ⟨b, off + 3, none⟩ (by simp; omega)).trans (g3 o)
  have k4 : ∀ o o', ((w.alloc o).alloc o').cell? ⟨b, off + 4, none⟩ = some (.slice AK nk ck) := fun o o' => (World.cell?_alloc_lt (w.alloc o) o' ⟨b, off + 4, none⟩ (by simp; omega)).trans (g4 o)
  have HSH := Lib.hid hsh
  clear h0 h1 h2 h3 h4 hsh
  have HI := Lib.hid (fun W => isKind_any k W)
  go_enter Tryd.func69, Tryd.ntmps69
  go_wp2_with fail
  refine (HI.out _).mono ?_
  rintro e w1 ⟨rfl, rfl⟩
  cases hk : isKd k with
  | false =>
    have hl : formB k i nm nl nk = false := by unfold formB; rw [hk]; rfl
    have HL := Lib.hid hl
    clear hl
    go_wp2_with fail
    go_ret
    exact ⟨ret_b HL.out.symm, hbe _⟩
  | true =>
    obtain ⟨kn, rfl, hkn⟩ := isKd_nat hk
    have hf : formB kn i nm nl nk = ((shI kn || i == 0) && ((shN kn || nm.toList.isEmpty) && ((shL kn == -1 || shL kn == (nl : Int)) && kidsN kn == (nk : Int)))) := by unfold formB; rw [hk, Bool.true_and]
    have s0 : ∀ o, (w.alloc o).cell? ⟨0, kn * 5, none⟩ = some (.bool (shI kn)) := fun o => (World.cell?_alloc_lt w o ⟨0, kn * 5, none⟩ hw).trans (HSH.out.s0 kn hkn)
    have s1 : ∀ o, (w.alloc o).cell? ⟨0, kn * 5 + 1, none⟩ = some (.bool (shN kn)) := fun o => (World.cell?_alloc_lt w o ⟨0, kn * 5 + 1, none⟩ hw).trans (HSH.out.s1 kn hkn)
    have s2 : ∀ o, (w.alloc o).cell? ⟨0, kn * 5 + 2, none⟩ = some (.int .i64 (shL kn)) := fun o => (World.cell?_alloc_lt w o ⟨0, kn * 5 + 2, none⟩ hw).trans (HSH.out.s2 kn hkn)
    have s3 : ∀ o, (w.alloc o).cell? ⟨0, kn * 5 + 3, none⟩ = some (.int .i64 (kidsN kn)) := fun o => (World.cell?_alloc_lt w o ⟨0, kn * 5 + 3, none⟩ hw).trans (HSH.out.s3 kn hkn)
    have s4 : ∀ o, (w.alloc o).cell? ⟨0, kn * 5 + 4, none⟩ = some (.int .i64 (bindK kn)) := fun o => (World.cell?_alloc_lt w o ⟨0, kn * 5 + 4, none⟩ hw).trans (HSH.out.s4 kn hkn)
    have HF := Lib.hid hf
    clear hf hk HI
    generalize shI (kn : Int) = a1 at *
    generalize shN (kn : Int) = a3 at *
    generalize shL (kn : Int) = sl at *
    generalize kidsN (kn : Int) = sk at *
    generalize bindK (kn : Int) = sb at *
    go_wp2_with fail
    obtain ⟨bi, hi⟩ : ∃ b, (i == 0) = b := ⟨_, rfl⟩
    obtain ⟨bn', hn⟩ : ∃ b, nm.toList.isEmpty = b := ⟨_, rfl⟩
    obtain ⟨b1, hl1⟩ : ∃ b, (sl == -1) = b := ⟨_, rfl⟩
    obtain ⟨b2, hl2⟩ : ∃ b, (sl == (nl : Int)) = b := ⟨_, rfl⟩
    obtain ⟨b3, hk3⟩ : ∃ b, (sk == (nk : Int)) = b := ⟨_, rfl⟩
    cases a1 with
    | true =>
      cases a3 with
      | true =>
        cases b1 with
        | true =>
          cases b3 with
          | true =>
            go_quiet (fail)
            go_wp2_with fail
            go_ret
            exact ⟨ret_b (by rw [HF.out, hl1, hk3]; rfl), Below.drewN' (((Below.refl _ _).alloc (Nat.le_refl _) _).alloc (by simp) _) _⟩
          | false =>
            go_quiet (fail)
            go_wp2_with fail
            go_ret
            exact ⟨ret_b (by rw [HF.out, hl1, hk3]; rfl), Below.drewN' (((Below.refl _ _).alloc (Nat.le_refl _) _).alloc (by simp) _) _⟩
        | false =>
          cases b2 with
          | true =>
            cases b3 with
            | true =>
              go_quiet (fail)
              go_wp2_with fail
              go_ret
              exact ⟨ret_b (by rw [HF.out, hl1, hl2, hk3]; rfl), Below.drewN' (((Below.refl _ _).alloc (Nat.le_refl _) _).alloc (by simp) _) _⟩
            | false =>
              go_quiet (fail)
              go_wp2_with fail
              go_ret
              exact ⟨ret_b (by rw [HF.out, hl1, hl2, hk3]; rfl), Below.drewN' (((Below.refl _ _).alloc (Nat.le_refl _) _).alloc (by simp) _) _⟩
          | false =>
            go_quiet (fail)
            go_wp2_with fail
            go_ret
            exact ⟨ret_b (by rw [HF.out, hl1, hl2]; rfl), Below.drewN' (((Below.refl _ _).alloc (Nat.le_refl _) _).alloc (by simp) _) _⟩
      | false =>
        cases bn' with
        | true =>
          cases b1 with
          | true =>
            cases b3 with
            | true =>
              go_quiet (fail)
              go_wp2_with fail
              go_ret
              exact ⟨ret_b (by rw [HF.out, hn, hl1, hk3]; rfl), Below.drewN' (((Below.refl _ _).alloc (Nat.le_refl _) _).alloc (by simp) _) _⟩
            | false =>
              go_quiet (fail)
              go_wp2_with fail
              go_ret
              exact ⟨ret_b (by rw [HF.out, hn, hl1, hk3]; rfl), Below.drewN' (((Below.refl _ _).alloc (Nat.le_refl _) _).alloc (by simp) _) _⟩
          | false =>
            cases b2 with
            | true =>
              cases b3 with
              | true =>
                go_quiet (fail)
                go_wp2_with fail
                go_ret
                exact ⟨ret_b (by rw [HF.out, hn, hl1, hl2, hk3]; rfl), Below.drewN' (((Below.refl _ _).alloc (Nat.le_refl _) _).alloc (by simp) _) _⟩
              | false =>
                go_quiet (fail)
                go_wp2_with fail
                go_ret
                exact ⟨ret_b (by rw [HF.out, hn, hl1, hl2, hk3]; rfl), Below.drewN' (((Below.refl _ _).alloc (Nat.le_refl _) _).alloc (by simp) _) _⟩
            | false =>
              go_quiet (fail)
              go_wp2_with fail
              go_ret
              exact ⟨ret_b (by rw [HF.out, hn, hl1, hl2]; rfl), Below.drewN' (((Below.refl _ _).alloc (Nat.le_refl _) _).alloc (by simp) _) _⟩
        | false =>
          go_quiet (fail)
          go_wp2_with fail
          go_ret
          exact ⟨ret_b (by rw [HF.out, hn]; rfl), Below.drewN' (((Below.refl _ _).alloc (Nat.le_refl _) _).alloc (by simp) _) _⟩
    | false =>
      cases bi with
      | true =>
        cases a3 with
        | true =>
          cases b1 with
          | true =>
            cases b3 with
            | true =>
              go_quiet (fail)
              go_wp2_with fail
              go_ret
              exact ⟨ret_b (by rw [HF.out, hi, hl1, hk3]; rfl), Below.drewN' (((Below.refl _ _).alloc (Nat.le_refl _) _).alloc (by simp) _) _⟩
            | false =>
              go_quiet (fail)
              go_wp2_with fail
              go_ret
              exact ⟨ret_b (by rw [HF.out, hi, hl1, hk3]; rfl), Below.drewN' (((Below.refl _ _).alloc (Nat.le_refl _) _).alloc (by simp) _) _⟩
          | false =>
            cases b2 with
            | true =>
              cases b3 with
              | true =>
                go_quiet (fail)
                go_wp2_with fail
                go_ret
                exact ⟨ret_b (by rw [HF.out, hi, hl1, hl2, hk3]; rfl), Below.drewN' (((Below.refl _ _).alloc (Nat.le_refl _) _).alloc (by simp) _) _⟩
              | false =>
                go_quiet (fail)
                go_wp2_with fail
                go_ret
                exact ⟨ret_b (by rw [HF.out, hi, hl1, hl2, hk3]; rfl), Below.drewN' (((Below.refl _ _).alloc (Nat.le_refl _) _).alloc (by simp) _) _⟩
            | false =>
              go_quiet (fail)
              go_wp2_with fail
              go_ret
              exact ⟨ret_b (by rw [HF.out, hi, hl1, hl2]; rfl), Below.drewN' (((Below.refl _ _).alloc (Nat.le_refl _) _).alloc (by simp) _) _⟩
        | false =>
          cases bn' with
          | true =>
            cases b1 with
            | true =>
              cases b3 with
              | true =>
                go_quiet (fail)
                go_wp2_with fail
                go_ret
                exact ⟨ret_b (by rw [HF.out, hi, hn, hl1, hk3]; rfl), Below.drewN' (((Below.refl _ _).alloc (Nat.le_refl _) _).alloc (by simp) _) _⟩
              | false =>
                go_quiet (fail)
                go_wp2_with fail
                go_ret
                exact ⟨ret_b (by rw [HF.out, hi, hn, hl1, hk3]; rfl), Below.drewN' (((Below.refl _ _).alloc (Nat.le_refl _) _).alloc (by simp) _) _⟩
            | false =>
              cases b2 with
              | true =>
                cases b3 with
                | true =>
                  go_quiet (fail)
                  go_wp2_with fail
                  go_ret
                  exact ⟨ret_b (by rw [HF.out, hi, hn, hl1, hl2, hk3]; rfl), Below.drewN' (((Below.refl _ _).alloc (Nat.le_refl _) _).alloc (by simp) _) _⟩
                | false =>
                  go_quiet (fail)
                  go_wp2_with fail
                  go_ret
                  exact ⟨ret_b (by rw [HF.out, hi, hn, hl1, hl2, hk3]; rfl), Below.drewN' (((Below.refl _ _).alloc (Nat.le_refl _) _).alloc (by simp) _) _⟩
              | false =>
                go_quiet (fail)
                go_wp2_with fail
                go_ret
                exact ⟨ret_b (by rw [HF.out, hi, hn, hl1, hl2]; rfl), Below.drewN' (((Below.refl _ _).alloc (Nat.le_refl _) _).alloc (by simp) _) _⟩
          | false =>
            go_quiet (fail)
            go_wp2_with fail
            go_ret
            exact ⟨ret_b (by rw [HF.out, hi, hn]; rfl), Below.drewN' (((Below.refl _ _).alloc (Nat.le_refl _) _).alloc (by simp) _) _⟩
      | false =>
        go_quiet (fail)
        go_wp2_with fail
        go_ret
        exact ⟨ret_b (by rw [HF.out, hi]; rfl), Below.drewN' (((Below.refl _ _).alloc (Nat.le_refl _) _).alloc (by simp) _) _⟩
end Go.Proofs.YtbiifkpelldciaaDoor
