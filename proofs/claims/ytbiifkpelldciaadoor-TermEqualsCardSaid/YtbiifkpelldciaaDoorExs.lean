/- Slices of numbers; slices.Equal of two that hold the same; what the chapter's examples yield. -/
import Derived.Test.YtbiifkpelldciaaDoorFrp
import Derived.Test.YtbiifkpelldciaaDoorNmr
namespace Go.Proofs.YtbiifkpelldciaaDoor
open Go.RowKit

/-- The slice of integers at address P reads, in w, as ps; its cells lie below block B. -/
def IA (w : World) (B : Nat) (P : Option Addr) (ps : List Int) : Prop :=
  ps.length * 8 ≤ 140737488355328 ∧ (0 < ps.length → ∃ b off, P = some ⟨b, off, none⟩ ∧ b < B ∧ ∀ j p, ps[j]? = some p → w.cell? ⟨b, off + j, none⟩ = some (.int .i64 p))
theorem IA.len {w : World} {B : Nat} {P : Option Addr} {ps : List Int} (h : IA w B P ps) : ps.length ≤ 17592186044416 := by have := h.1; omega
theorem IA.keep {w w' : World} {B : Nat} {P : Option Addr} {ps : List Int} (h : IA w B P ps) (hk : ∀ p : Addr, p.block < B → w'.cell? p = w.cell? p) : IA w' B P ps :=
  ⟨h.1, fun hn => by
    obtain ⟨b, off, e, hb, hc⟩ := h.2 hn
    exact ⟨b, off, e, hb, fun j p hj => (hk _ hb).trans (hc j p hj)⟩⟩
theorem IA.more {w : World} {B B' : Nat} {P : Option Addr} {ps : List Int} (h : IA w B P ps) (hB : B ≤ B') : IA w B' P ps :=
  ⟨h.1, fun hn => by
    obtain ⟨b, off, e, hb, hc⟩ := h.2 hn
    exact ⟨b, off, e, by omega, hc⟩⟩
theorem IA.below {w w' : World} {B B' : Nat} {P : Option Addr} {ps : List Int} (h : IA w B P ps) (hb : Below B' w w') (hB : B ≤ B') : IA w' B P ps := h.keep fun _ hp => hb.cell (by omega)
theorem IA.next0 {w w' : World} {P : Option Addr} {ps : List Int} (h : IA w w.heap.size P ps) (hb : Below w.heap.size w w') : IA w' w'.heap.size P ps := (h.below hb (Nat.le_refl _)).more hb.size
theorem IA.at_ {w : World} {B : Nat} {P : Option Addr} {ps : List Int} (h : IA w B P ps) {k : Nat} (hk : k < ps.length) : ∃ b off, P = some ⟨b, off, none⟩ ∧ b < B ∧ w.cell? ⟨b, off + k, none⟩ = some (.int .i64 (ps.getD k 0)) := by
  obtain ⟨b, off, e, hb, hc⟩ := h.2 (by omega)
  refine ⟨b, off, e, hb, hc k _ ?_⟩
  rw [List.getD_eq_getElem?_getD, List.getElem?_eq_getElem hk]
  rfl
set_option maxRecDepth 100000 in
set_option maxHeartbeats 1000000 in
theorem equalI_any (A1 : Option Addr) (cap1 : Nat) (A2 : Option Addr) (cap2 : Nat) (ms : List Int) (B : Nat) (w : World) (h1 : IA w B A1 ms) (h2 : IA w B A2 ms) (hB : B ≤ w.heap.size) :
    Calls Tryd.prog 23 #[.slice A1 ms.length cap1, .slice A2 ms.length cap2] w fun e w' => e = .returned (.bool true) ∧ Below w.heap.size w w' := by
  have hlen1 := h1.len
  have hq : ((ms.length : Int) != (ms.length : Int)) = false := by simp
  go_enter Tryd.func23, Tryd.ntmps23
  go_wp2
  go_loopw [13] (fun i wr => ∃ k : Nat, k ≤ ms.length ∧ i = .int .i64 k ∧ Below w.heap.size w wr) (fun i _ => ms.length - (intOf i).toNat)
  case atStart => exact ⟨0, Nat.zero_le _, rfl, Below.refl _ _⟩
  case round =>
    obtain ⟨k, hk, rfl, hfr⟩ := hrel
    by_cases hlt : k < ms.length
    · obtain ⟨b1, off1, rfl, hb1, hc0⟩ := (h1.below hfr hB).at_ hlt
      obtain ⟨b2, off2, rfl, hb2, hd0⟩ := (h2.below hfr hB).at_ hlt
      generalize ms.getD k 0 = x at *
      have hx : (x != x) = false := by simp
      go_wp2
      go_quiet (fail)
      go_wp2
      go_roundw
      case rel => exact ⟨k + 1, by omega, by go_num, Below.drewN' hfr _⟩
      case measure => simp [intOf]; omega
    · obtain rfl : k = ms.length := by omega
      go_wp2
      go_ret
      exact ⟨rfl, hfr⟩

/-- A slice of the call's own reads as its list. -/
theorem ia_of {w : World} {base : Nat} {v : Value} {S : List Int} (h : w.ownsRow base 3 1 v S.length (S.map encZ)) (hl : S.length * 8 ≤ 140737488355328) : ∃ A c, v = .slice A S.length c ∧ IA w w.heap.size A S := by
  rcases h.2 with ⟨rfl, h0⟩ | ⟨g, cap, cur, rfl, hb, hg, hn, _⟩
  · exact ⟨none, 0, by rw [h0], hl, fun hp => by omega⟩
  · refine ⟨_, cap, rfl, hl, fun _ => ⟨g, 0, rfl, (Array.getElem?_eq_some_iff.1 hg).1, fun j p hj => ?_⟩⟩
    have := World.ownsRow.cells h (g := g) rfl j (.int .i64 p) (by rw [List.getElem?_map, hj]; rfl)
    rw [Addr.add_lit] at this
    exact this
def bE : ByteArray := ⟨#[]⟩
def bNat : ByteArray := ⟨#[78, 97, 116]⟩
def exT : Tm := .mk 5 0 bE [] [.mk 3 0 bNat [] [], .mk 4 0 bE [] [.mk 0 0 bE [] [], .mk 0 1 bE [] []]]
def exS : Tm := .mk 2 0 bE [(0, [(1, 0)])] []
def exC : Tm := .mk 3 0 bNat [] [.mk 0 0 bE [] []]
def exX : Tm := .mk 0 7 ⟨#[120]⟩ [] []
theorem e_nil : bE.toList.isEmpty = true := by rw [ba_list]; rfl
theorem nat_nil : bNat.toList.isEmpty = false := by rw [ba_list]; rfl
theorem x_nil : (⟨#[120]⟩ : ByteArray).toList.isEmpty = false := by rw [ba_list]; rfl
theorem ex_sz : szT exT = 5 := by kernel_rfl
theorem ex_dp : dpT exT = 3 := by kernel_rfl
theorem ex_free : freeT exT = [0] := by kernel_rfl
theorem ex_c0 : chkC 1 0 0 0 exT = 0 := by kernel_rfl
theorem ex_c1 : chkC 0 0 0 0 exT = 24 := by kernel_rfl
theorem ex_c2 : chkC 1 0 0 0 exC = 3 := by kernel_rfl
theorem ex_c3 : chkC 1 0 0 0 exX = 3 := by kernel_rfl
theorem ex_c4 : chkC 0 1 0 0 exS = 15 := by kernel_rfl
theorem ex_c5 : chkC 0 2 0 0 exS = 0 := by kernel_rfl
theorem ex_n1 : nameB ⟨#[78, 97, 116, 46, 114, 101, 99]⟩ = true := by kernel_rfl
theorem ex_n2 : nameB ⟨#[120, 49]⟩ = true := by kernel_rfl
theorem ex_n3 : nameB ⟨#[95, 97, 46, 98, 39]⟩ = true := by kernel_rfl
theorem ex_n4 : nameB ⟨#[97, 46]⟩ = false := by kernel_rfl
theorem ex_n5 : nameB ⟨#[49, 97]⟩ = false := by kernel_rfl
theorem ex_n6 : nameB ⟨#[97, 46, 46, 98]⟩ = false := by kernel_rfl
theorem ex_n7 : nameB ⟨#[]⟩ = false := by kernel_rfl
end Go.Proofs.YtbiifkpelldciaaDoor
