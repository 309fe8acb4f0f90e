/- few: whether no level of a list has more than twelve variables. -/
import Derived.Test.YtipnabbdhmapkaaGreatDoorW
namespace Go.Proofs.YtipnabbdhmapkaaGreatDoor
open Go.RowKit

/-- A level as it lies in a cell: its constant, and its slice's address, length and capacity. -/
abbrev LH := Int × Option Addr × Nat × Nat
/-- The slice of levels at address A reads, in w, as ls; its cells lie below block B. -/
def LA (w : World) (B : Nat) (A : Option Addr) (ls : List LH) : Prop :=
  ls.length * 32 ≤ 140737488355328 ∧ (0 < ls.length → ∃ b off, A = some ⟨b, off, none⟩ ∧ b < B ∧
    ∀ j c a n k, ls[j]? = some (c, a, n, k) → w.cell? ⟨b, off + j * 2, none⟩ = some (.int .i64 c) ∧ w.cell? ⟨b, off + j * 2 + 1, none⟩ = some (.slice a n k))
theorem LA.keep {w w' : World} {B : Nat} {A : Option Addr} {ls : List LH} (h : LA w B A ls) (hk : ∀ p : Addr, p.block < B → w'.cell? p = w.cell? p) : LA w' B A ls :=
  ⟨h.1, fun hn => by
    obtain ⟨b, off, e, hb, hc⟩ := h.2 hn
    exact ⟨b, off, e, hb, fun j c a n k hj => ⟨(hk _ hb).trans (hc j c a n k hj).1, (hk _ hb).trans (hc j c a n k hj).2⟩⟩⟩
theorem LA.below {w w' : World} {B B' : Nat} {A : Option Addr} {ls : List LH} (h : LA w B A ls) (hb : Below B' w w') (hB : B ≤ B') : LA w' B A ls := h.keep fun _ hp => hb.cell (by omega)
theorem LA.at_ {w : World} {B : Nat} {A : Option Addr} {ls : List LH} (h : LA w B A ls) {k : Nat} (hk : k < ls.length) : ∃ b off c a n q, A = some ⟨b, off, none⟩ ∧ b < B ∧ ls[k]? = some (c, a, n, q) ∧
    w.cell? ⟨b, off + k * 2, none⟩ = some (.int .i64 c) ∧ w.cell? ⟨b, off + k * 2 + 1, none⟩ = some (.slice a n q) := by
  obtain ⟨b, off, e, hb, hc⟩ := h.2 (by omega)
  have hg : ls[k]? = some (ls[k].1, ls[k].2.1, ls[k].2.2.1, ls[k].2.2.2) := List.getElem?_eq_getElem hk
  exact ⟨b, off, _, _, _, _, e, hb, hg, hc k _ _ _ _ hg⟩
theorem LA.len {w : World} {B : Nat} {A : Option Addr} {ls : List LH} (h : LA w B A ls) : ls.length ≤ 4398046511104 := by have := h.1; omega

set_option maxHeartbeats 400000 in
theorem few1_any (c : Int) (a : Option Addr) (n k : Nat) (w : World) :
    Calls Tryz.prog 46 #[.agg #[.int .i64 c, .slice a n k]] w fun e w' => e = .returned (.bool (decide (12 < n))) ∧ Below w.heap.size w w' := by
  have hd : decide ((12 : Int) < (n : Int)) = decide (12 < n) := by simp; omega
  go_enter Tryz.func46, Tryz.ntmps46
  go_wp2
  go_ret
  exact ⟨by simp, (Below.refl _ _).alloc (Nat.le_refl _) _⟩

/-- None of the first k levels is long. -/
def NoBig (ls : List LH) (k : Nat) : Prop := ∀ j c a n q, j < k → ls[j]? = some (c, a, n, q) → n ≤ 12
def bigB (ls : List LH) : Bool := ls.any fun l => decide (12 < l.2.2.1)
theorem bigB_yes {ls : List LH} {k : Nat} {c : Int} {a : Option Addr} {n q : Nat} (h : ls[k]? = some (c, a, n, q)) (hn : 12 < n) : bigB ls = true :=
  List.any_eq_true.2 ⟨_, List.mem_of_getElem? h, by simpa using hn⟩
theorem bigB_no {ls : List LH} (h : NoBig ls ls.length) : bigB ls = false := by
  unfold bigB
  rw [List.any_eq_false]
  intro l hl
  obtain ⟨j, hj, rfl⟩ := List.mem_iff_getElem.1 hl
  have := h j _ _ _ _ hj (List.getElem?_eq_getElem hj)
  simpa using this

set_option maxRecDepth 100000 in
set_option maxHeartbeats 1000000 in
theorem fewIndex_any (A : Option Addr) (cap : Nat) (ls : List LH) (B : Nat) (w : World) (hv : LA w B A ls) (hB : B ≤ w.heap.size) :
    Calls Tryz.prog 78 #[.slice A ls.length cap, .func (.func 46) #[] #[]] w
      fun e w' => (∃ i, e = .returned (.int .i64 i) ∧ decide (0 ≤ i) = bigB ls) ∧ Below w.heap.size w w' := by
  have hlen := hv.len
  go_enter Tryz.func78, Tryz.ntmps78
  go_wp2
  go_loopw [8] (fun i wr => ∃ k : Nat, k ≤ ls.length ∧ i = .int .i64 k ∧ NoBig ls k ∧ Below w.heap.size w wr) (fun i _ => ls.length - (intOf i).toNat)
  case atStart => exact ⟨0, Nat.zero_le _, rfl, fun j _ _ _ _ h _ => absurd h (by omega), Below.refl _ _⟩
  case round =>
    obtain ⟨k, hk, rfl, hn, hbw⟩ := hrel
    have HN := Lib.hid hn
    clear hn
    by_cases hlt : k < ls.length
    · obtain ⟨b, off, c, a, n, q, rfl, hb, hg, hc0, hc1⟩ := (hv.below hbw hB).at_ hlt
      have hG := Lib.hid hg
      clear hg
      by_cases hy : 12 < n
      · have hyd : decide (12 < n) = true := by simpa using hy
        go_wp2_with (go_at_call 46; refine (few1_any c a n q _).mono ?_; rintro e w' ⟨rfl, hb'⟩)
        go_ret
        exact ⟨⟨_, rfl, by rw [bigB_yes hG.out hy]; simp⟩, hbw.trans (hb'.mono hbw.size)⟩
      · have hyd : decide (12 < n) = false := by simpa using hy
        go_wp2_with (go_at_call 46; refine (few1_any c a n q _).mono ?_; rintro e w' ⟨rfl, hb'⟩)
        go_roundw
        case rel => exact ⟨k + 1, by omega, by go_num, fun j c' a' n' q' hj hj' => by
            rcases Nat.lt_or_ge j k with h | h
            · exact HN.out j c' a' n' q' h hj'
            · obtain rfl : j = k := by omega
              rw [hG.out] at hj'; cases hj'; omega, hbw.trans (hb'.mono hbw.size)⟩
        case measure => simp [intOf]; omega
    · obtain rfl : k = ls.length := by omega
      go_wp2
      go_ret
      exact ⟨⟨_, rfl, by rw [bigB_no HN.out]; simp⟩, hbw⟩

set_option maxHeartbeats 400000 in
theorem fewContains_any (A : Option Addr) (cap : Nat) (ls : List LH) (B : Nat) (w : World) (hv : LA w B A ls) (hB : B ≤ w.heap.size) :
    Calls Tryz.prog 45 #[.slice A ls.length cap, .func (.func 46) #[] #[]] w
      fun e w' => e = .returned (.bool (bigB ls)) ∧ Below w.heap.size w w' := by
  go_enter Tryz.func45, Tryz.ntmps45
  go_wp2_with fail
  refine (fewIndex_any A cap ls B _ hv hB).mono ?_
  rintro e w' ⟨⟨i, rfl, hi⟩, hb'⟩
  have HI := Lib.hid hi
  clear hi
  go_wp2
  go_ret
  exact ⟨ret_bool HI.out, hb'⟩

set_option maxHeartbeats 400000 in
theorem few_any (A : Option Addr) (cap : Nat) (ls : List LH) (B : Nat) (w : World) (hv : LA w B A ls) (hB : B ≤ w.heap.size) :
    Calls Tryz.prog 13 #[.slice A ls.length cap] w fun e w' => e = .returned (.bool (!bigB ls)) ∧ Below w.heap.size w w' := by
  go_enter Tryz.func13, Tryz.ntmps13
  go_wp2_with fail
  refine (fewContains_any A cap ls B _ hv hB).mono ?_
  rintro e w' ⟨rfl, hb'⟩
  go_wp2
  go_ret
  exact ⟨rfl, hb'⟩
end Go.Proofs.YtipnabbdhmapkaaGreatDoor
