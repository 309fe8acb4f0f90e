/- A list of values among a law's arguments, held through its calls; what the reference's Under gives is small. -/
import Derived.Test.YtobaeeobfcffoaaDoorSup
namespace Go.Proofs.YtobaeeobfcffoaaDoor
open Go.RowKit

theorem VsV.more {w : World} {B B' : Nat} {AV : Option Addr} {vals : List Tm} (h : VsV w B AV vals) (hB : B ≤ B') : VsV w B' AV vals := ⟨h.1, fun hn => by
  obtain ⟨b, o, e, hb, hk⟩ := h.2 hn
  exact ⟨b, o, e, by omega, KsV.more hB b _ _ hk⟩⟩
structure Vh (B : Nat) (AV : Option Addr) (vals : List Tm) (w : World) : Prop where
  vs : VsV w B AV vals
  le : B ≤ w.heap.size
theorem Vh.next {B : Nat} {AV : Option Addr} {vals : List Tm} {w w' : World} (h : Vh B AV vals w) (hb : Below w.heap.size w w') : Vh B AV vals w' := ⟨h.vs.below hb h.le, Nat.le_trans h.le hb.size⟩
theorem Vh.all {B : Nat} {AV : Option Addr} {vals : List Tm} {w : World} (h : Vh B AV vals w) : VsV w w.heap.size AV vals := h.vs.more h.le
theorem Vh.ka {B : Nat} {AV : Option Addr} {vals : List Tm} {w : World} (h : Vh B AV vals w) : KidsA w w.heap.size AV vals ∧ vals.length ≤ 1759218604441 := by
  have hp : TmV w w.heap.size (.mk 0 0 ⟨#[]⟩ [] vals) (.agg #[.int .i64 0, .int .i64 0, .string ⟨#[]⟩, .slice none 0 0, .slice AV vals.length vals.length]) := by
    rw [TmV]
    exact ⟨none, 0, AV, _, rfl, ⟨by simp, fun h => by simp at h⟩, h.vs.1, h.all.2⟩
  exact hp.kidsA
theorem ruS_small {vals : List Tm} {dep : Int} {t : Tm} (h : AllT Wg t 0) (hvals : ∀ x ∈ vals, AllT Wg x 0 ∧ AllT Wv x 0) : (ruS vals dep t).e = 0 → ¬ 4096 < (ruS vals dep t).n → szT (ruS vals dep t).t ≤ 1000000000 := by
  have es : ruS vals dep t = ruS vals (max dep 0) t := by
    unfold ruS
    rw [show (min dep 65536).toNat = (min (max dep 0) 65536).toNat by omega]
  rw [es]
  obtain ⟨h1, h2⟩ := su_cp (vals := vals) (dep := max dep 0) (by omega) hvals t 0 0 h
  rw [Nat.add_zero] at h1 h2
  rw [Nat.zero_add] at h1 h2
  intro he hn
  by_cases hx : 4096 < (cpT (undR vals (max dep 0)) t 0).n
  · exact absurd (h2 hx) hn
  · obtain ⟨a1, a2, a3⟩ := h1 (by omega)
    have he' : (cpT (undR vals (max dep 0)) t 0).e = 0 := a2.symm.trans he
    have a3' : (ruS vals (max dep 0) t).t = (cpT (undR vals (max dep 0)) t 0).t := a3 he'
    rw [a3', ← cp_sz (cnt_und vals (max dep 0)) t 0 he']
    omega
end Go.Proofs.YtobaeeobfcffoaaDoor
