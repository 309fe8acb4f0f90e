/- Lists of terms in one new block; how great results may be; the world as a law left it. -/
import Derived.Test.YtobaeeobfcffoaaDoorRsl
import Derived.Test.YtobaeeobfcffoaaDoorGod
import Derived.Test.YtobaeeobfcffoaaDoorAwk
namespace Go.Proofs.YtobaeeobfcffoaaDoor
open Go.RowKit

/-- The world as a law left it behind some calls. -/
structure Lw (w0 w : World) : Prop where
  below : Below w0.heap.size w0 w
  sh : ShapesB w
  pos : 0 < w.heap.size
theorem Lw.next {w0 w w' : World} (h : Lw w0 w) (hb : Below w.heap.size w w') : Lw w0 w' :=
  ⟨h.below.trans (hb.mono h.below.size), fun k hk => (hb.cell (p := ⟨0, k * 5 + 4, none⟩) h.pos).trans (h.sh k hk), Nat.lt_of_lt_of_le h.pos hb.size⟩
theorem Lw.start {w : World} (hsh : Shapes w) (hw : 0 < w.heap.size) : Lw w w := ⟨Below.refl _ _, hsh.s4, hw⟩
theorem alB (w : World) (o : Obj) : Below w.heap.size w (w.alloc o) := (Below.refl _ _).alloc (Nat.le_refl _) o
theorem list_ks {w : World} {ts : List Tm} {us : List Value} (h : RdL w (· < w.heap.size) ts us) : KsV (w.alloc (.cells us.toArray 25)) (w.heap.size + 1) w.heap.size 0 ts := by
  have hb := alB w (.cells us.toArray 25)
  have hn := World.alloc_heap_new w (.cells us.toArray 25)
  have h1 : RdL (w.alloc (.cells us.toArray 25)) (· < w.heap.size + 1) ts us := h.keep (fun p hp _ => hb.cell hp) (fun q hq _ => Nat.lt_succ_of_lt hq)
  refine KsP.ksV' _ _ _ (KsP.mono (fun q hq _ => hq) _ _ _ (h1.ksP (fun j u hu => ?_)))
  rw [Nat.zero_add, cell_of_row _ _ j _ _ _ hn]
  simpa using hu
theorem list_vs {w : World} {ts : List Tm} {us : List Value} (h : RdL w (· < w.heap.size) ts us) (hz : ts.length * 80 ≤ 140737488355328) : VsV (w.alloc (.cells us.toArray 25)) (w.alloc (.cells us.toArray 25)).heap.size (some ⟨w.heap.size, 0, none⟩) ts :=
  ⟨hz, fun _ => ⟨w.heap.size, 0, rfl, by simp, by rw [World.size_alloc]; exact list_ks h⟩⟩
theorem list_ka {w : World} {ts : List Tm} {us : List Value} (h : RdL w (· < w.heap.size) ts us) (hz : ts.length * 80 ≤ 140737488355328) : KidsA (w.alloc (.cells us.toArray 25)) (w.heap.size + 1) (some ⟨w.heap.size, 0, none⟩) ts := by
  have hp : TmV (w.alloc (.cells us.toArray 25)) (w.heap.size + 1) (.mk 0 0 ⟨#[]⟩ [] ts) (.agg #[.int .i64 0, .int .i64 0, .string ⟨#[]⟩, .slice none 0 0, .slice (some ⟨w.heap.size, 0, none⟩) ts.length ts.length]) := by
    rw [TmV]
    exact ⟨none, 0, some ⟨w.heap.size, 0, none⟩, _, rfl, ⟨by simp, fun h => by simp at h⟩, hz, fun _ => ⟨w.heap.size, 0, rfl, by omega, list_ks h⟩⟩
  exact hp.kidsA.1
theorem TB.rd {b : Nat} {t : Tm} {k i : Int} {nm : ByteArray} {AL : Option Addr} {nl cl : Nat} {AK : Option Addr} {nk ck : Nat} {w : World} (h : TB b t k i nm AL nl cl AK nk ck w) {ts : List Tm} {us : List Value} (hr : RdL w (· < w.heap.size) ts us) : RdL w (· < w.heap.size) (t :: ts) (.int .i64 k :: .int .i64 i :: .string nm :: .slice AL nl cl :: .slice AK nk ck :: us) :=
  ⟨_, _, _, _, _, us, rfl, TmP.of _ _ h.tv, hr⟩
theorem nil_small : szT nilT ≤ 4096 ∧ AllT Qv nilT 0 := ⟨by unfold nilT; rw [szT, szL]; omega, qv_vr' 0 0 (by omega)⟩
theorem errO_zero {x : Ou} (h : errO x = 0) : x.n ≤ 4096 ∧ x.e = 0 := by
  unfold errO at h
  split at h
  · cases h
  · exact ⟨by omega, h⟩
theorem shO_small {by_ fr : Int} {t : Tm} (h : AllT Qv t 0) : szT (shO by_ fr t) ≤ 4096 ∧ AllT Qv (shO by_ fr t) 0 := by
  unfold shO
  split
  · exact nil_small
  · rename_i hn
    unfold resO
    split
    · rename_i he
      obtain ⟨h1, h2⟩ := errO_zero he
      exact ⟨by rw [← cp_sz (cnt_sh by_ fr) t 0 h2]; exact h1, sh_qv (by omega) h h2⟩
    · exact nil_small
theorem unE_zero {vals : List Tm} {dep : Int} {t : Tm} (h : unE vals dep t = 0) : 0 ≤ dep ∧ errO (cpT (undR vals dep) t 0) = 0 := by
  unfold unE at h
  split at h
  · cases h
  · split at h
    · cases h
    · exact ⟨by omega, h⟩
theorem unO_small {vals : List Tm} {dep : Int} {t : Tm} (hv : ∀ x ∈ vals, AllT Qv x 0) (h : AllT Qv t 0) : szT (unO vals dep t) ≤ 4096 ∧ AllT Qv (unO vals dep t) 0 := by
  unfold unO
  split
  · rename_i hn
    obtain ⟨h0, he⟩ := unE_zero hn
    obtain ⟨h1, h2⟩ := errO_zero he
    exact ⟨by rw [← cp_sz (cnt_und vals dep) t 0 h2]; exact h1, un_qv h0 hv h h2⟩
  · exact nil_small
theorem shE_zero {by_ fr : Int} {t : Tm} (h : shE by_ fr t = 0) : shO by_ fr t = (cpT (shR by_ fr) t 0).t ∧ (cpT (shR by_ fr) t 0).e = 0 := by
  unfold shE at h
  unfold shO
  split at h
  · cases h
  · rename_i hn
    rw [if_neg hn]
    unfold resO
    rw [if_pos h]
    exact ⟨rfl, (errO_zero h).2⟩
theorem unE_zero' {vals : List Tm} {dep : Int} {t : Tm} (h : unE vals dep t = 0) : unO vals dep t = (cpT (undR vals dep) t 0).t ∧ (cpT (undR vals dep) t 0).e = 0 := by
  unfold unO
  rw [if_pos h]
  exact ⟨rfl, (errO_zero (unE_zero h).2).2⟩
end Go.Proofs.YtobaeeobfcffoaaDoor
