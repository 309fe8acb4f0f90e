/- The reader of the parts of the text of a level. -/
import Derived.Test.YtipnabbdhmapkaaGreatDoorPart
import Derived.Test.YtipnabbdhmapkaaGreatDoorRow
import Derived.Maps.Range
namespace Go.Proofs.YtipnabbdhmapkaaGreatDoor
open Go.RowKit

/-- A part as it is written: its sign, its number, its offset. -/
structure PV where
  pre : ByteArray
  num : Int
  plus : Int
def PartR.pv (p : PartR) : PV := ⟨p.pre, p.num, p.plus⟩
def flat3 : List PV → List Value
  | [] => []
  | p :: r => .string p.pre :: .int .i64 p.num :: .int .i64 p.plus :: flat3 r
theorem flat3_length (vs : List PV) : (flat3 vs).length = vs.length * 3 := by
  induction vs with
  | nil => rfl
  | cons p r ih => simp only [flat3, List.length_cons, ih]; omega
theorem flat3_append (a b : List PV) : flat3 (a ++ b) = flat3 a ++ flat3 b := by
  induction a with
  | nil => rfl
  | cons p r ih => simp [flat3, ih]
theorem flat3_at (vs : List PV) (j : Nat) (p : PV) (h : vs[j]? = some p) : (flat3 vs)[j * 3]? = some (.string p.pre) ∧ (flat3 vs)[j * 3 + 1]? = some (.int .i64 p.num) ∧ (flat3 vs)[j * 3 + 2]? = some (.int .i64 p.plus) := by
  induction vs generalizing j with
  | nil => simp at h
  | cons q r ih =>
    cases j with
    | zero => simp at h; subst h; simp [flat3]
    | succ j =>
      rw [show (j + 1) * 3 = j * 3 + 1 + 1 + 1 by omega, show j * 3 + 1 + 1 + 1 + 1 = j * 3 + 1 + 1 + 1 + 1 by rfl]
      have := ih j (by simpa using h)
      refine ⟨by simpa [flat3] using this.1, by simpa [flat3] using this.2.1, by simpa [flat3] using this.2.2⟩
/-- The slice value v is memory of the call's own, from block base on, and holds the parts. -/
def Own3 (w : World) (base : Nat) (v : Value) (vs : List PV) : Prop := w.ownsRow base 105 3 v vs.length (flat3 vs)
theorem Own3.kept {w w' : World} {base : Nat} {v : Value} {vs : List PV} (h : Own3 w base v vs) {b : Nat} (hg : w.grownBy w' (some b)) (hb : b < base) : Own3 w' base v vs :=
  World.ownsRow.kept h hg (by
    cases ho : v.ownBlock with
    | none => exact .inl rfl
    | some j => exact .inr (by have := World.ownsRow.lt h j ho; intro e; cases e; omega))
theorem info98 : (Tryz.prog.info? 105).map (fun i => (i.zero, i.size, i.bytes)) = some (some (.agg #[.string ⟨#[]⟩, .int .i64 0, .int .i64 0]), 3, 32) := by kernel_rfl

theorem le_spEnd (s : ByteArray) (k : Nat) : k ≤ spEnd s k := by unfold spEnd; omega
theorem le_signEnd (s : ByteArray) (k : Nat) (p : ByteArray) : k ≤ signEnd s k p := by
  unfold signEnd
  have := le_spEnd s k
  split <;> omega
theorem le_digEnd (s : ByteArray) (k : Nat) : k ≤ digEnd s k := by unfold digEnd; omega
theorem lt_digEnd {s : ByteArray} {k : Nat} (h : numB (digs s k) = true) : k < digEnd s k := by
  unfold digEnd
  have : digs s k ≠ [] := by intro e; rw [e] at h; exact absurd h (by decide)
  have := List.length_pos_iff.2 this
  omega
theorem preOf_le {s : ByteArray} {k : Nat} (hk : k ≤ s.size) : k ≤ (preOf s k).2 ∧ (preOf s k).2 ≤ s.size := by
  have h1 := le_signEnd s k uS
  have h2 := le_signEnd s (signEnd s k uS) qS
  have h3 : signEnd s k uS ≤ s.size := signEnd_le hk
  have h4 : signEnd s (signEnd s k uS) qS ≤ s.size := signEnd_le h3
  unfold preOf
  split
  · exact ⟨h1, h3⟩
  · split
    · exact ⟨by simp only; omega, h4⟩
    · exact ⟨by simp only; omega, h4⟩
theorem partOf_le {s : ByteArray} {k : Nat} (hk : k ≤ s.size) : (partOf s k).at_ ≤ s.size ∧ ((partOf s k).ok = true → k < (partOf s k).at_) := by
  have hp0 := preOf_le hk
  rcases hp : preOf s k with ⟨P, K⟩
  rw [hp] at hp0
  obtain ⟨h1, h2⟩ := hp0
  simp only at h1 h2
  have h3 : digEnd s K ≤ s.size := digEnd_le h2
  have h4 : signEnd s (digEnd s K) plS ≤ s.size := signEnd_le h3
  have h5 := spEnd_le h4
  have h6 := digEnd_le h5
  have g3 := le_digEnd s K
  have g4 := le_signEnd s (digEnd s K) plS
  have g5 := le_spEnd s (signEnd s (digEnd s K) plS)
  have g6 := le_digEnd s (spEnd s (signEnd s (digEnd s K) plS))
  cases hn : numB (digs s K) with
  | false => rw [partOf_fail hp hn]; exact ⟨h3, fun h => by cases h⟩
  | true =>
    have g7 := lt_digEnd hn
    by_cases hne : P = ⟨#[]⟩
    · subst hne
      rw [partOf_const hp hn]; exact ⟨h3, fun _ => by simp only; omega⟩
    · cases hs : signB s (digEnd s K) plS with
      | false => rw [partOf_bare hp hne hn hs]; exact ⟨h4, fun _ => by simp only; omega⟩
      | true => rw [partOf_plus hp hne hn hs]; exact ⟨h6, fun _ => by simp only; omega⟩

abbrev mxS : ByteArray := ⟨#[109, 97, 120]⟩
abbrev lpS : ByteArray := ⟨#[40]⟩
abbrev rpS : ByteArray := ⟨#[41]⟩
abbrev cmS : ByteArray := ⟨#[44]⟩
/-- The parts from k on up to the bracket, and where the reader stands behind it. -/
def listOf (s : ByteArray) : Nat → Nat → Option (List PV × Nat)
  | 0, _ => none
  | f + 1, k =>
    if (partOf s k).ok = false then none else
      if signB s (partOf s k).at_ rpS = true then some ([(partOf s k).pv], signEnd s (partOf s k).at_ rpS) else
        if signB s (signEnd s (partOf s k).at_ rpS) cmS = false then none else
          (listOf s f (signEnd s (signEnd s (partOf s k).at_ rpS) cmS)).map fun r => ((partOf s k).pv :: r.1, r.2)
def partsOf (s : ByteArray) (k : Nat) : Option (List PV × Nat) :=
  if signB s k mxS = false then
    (if (partOf s (signEnd s k mxS)).ok = false then none else some ([(partOf s (signEnd s k mxS)).pv], (partOf s (signEnd s k mxS)).at_))
  else if signB s (signEnd s k mxS) lpS = false then none else listOf s (s.size + 1) (signEnd s (signEnd s k mxS) lpS)

theorem cell_three_new {W : World} {cs : Array Value} {l : List Value} (t : TypeId) (m : Nat) (hl : l = cs.toList) (hm : m = W.heap.size) : ∀ j u, l[j]? = some u → (W.alloc (.cells cs t)).cell? ((⟨m, 0, none⟩ : Addr).add j) = some u := by
  intro j u hj
  rw [Addr.add_lit]
  exact PSt.alloc_cell _ _ _ _ _ _ hm (by subst hl; simpa using hj)
/-- What the reader of parts returns and leaves. -/
def PartsPost (s : ByteArray) (r : Option (List PV × Nat)) (w : World) (b : Nat) (e : Ending) (w' : World) : Prop :=
  w.grownBy w' (some b) ∧ match r with
  | some (ps, k) => ∃ v, e = .returned (.tuple #[v, .bool true]) ∧ Own3 w' w.heap.size v ps ∧ Rd w' b s k ∧ k ≤ s.size ∧ ps.length ≤ s.size
  | none => ∃ v k, e = .returned (.tuple #[v, .bool false]) ∧ Rd w' b s k ∧ k ≤ s.size

set_option maxRecDepth 100000 in
set_option maxHeartbeats 2000000 in
theorem parts_rd (b : Nat) (s : ByteArray) (k0 : Nat) (w : World) (hr : Rd w b s k0) (hk0 : k0 ≤ s.size) (hs : s.size ≤ 65536) :
    Calls Tryz.prog 88 #[.pointer (some ⟨b, 0, none⟩)] w (PartsPost s (partsOf s k0) w b) := by
  obtain ⟨i0, hi, hz0, hz1, hz2⟩ := info_parts info98
  have hlt := hr.lt
  have hm := Lib.hid (sign_any b s mxS k0 w hr hk0 hs (by decide))
  have hk1 : signEnd s k0 mxS ≤ s.size := signEnd_le hk0
  clear hr
  cases hmx : signB s k0 mxS with
  | false =>
    simp only [hmx] at hm
    go_enter Tryz.func88, Tryz.ntmps88
    go_wp2_with fail
    refine hm.out.mono ?_
    rintro e w1 ⟨rfl, hr1, hg1⟩
    have HP := Lib.hid (part_rd b s (signEnd s k0 mxS) w1 hr1 hk1 hs)
    have HG1 := Lib.hid hg1
    clear hr1 hg1
    go_wp2_with fail
    refine HP.out.mono ?_
    rintro e w2 ⟨rfl, hr2, hg2⟩
    go_wp2_with fail
    have hsz1 := HG1.out.size
    have hsz2 := hg2.size
    have hG : w.grownBy ((w2.alloc (.cells #[.string (partOf s (signEnd s k0 mxS)).pre, .int .i64 (partOf s (signEnd s k0 mxS)).num, .int .i64 (partOf s (signEnd s k0 mxS)).plus] 105)).alloc (.cells #[.string (partOf s (signEnd s k0 mxS)).pre, .int .i64 (partOf s (signEnd s k0 mxS)).num, .int .i64 (partOf s (signEnd s k0 mxS)).plus] 105)) (some b) := grown_alloc (grown_alloc (grown_trans HG1.out hg2) _) _
    have hR : Rd ((w2.alloc (.cells #[.string (partOf s (signEnd s k0 mxS)).pre, .int .i64 (partOf s (signEnd s k0 mxS)).num, .int .i64 (partOf s (signEnd s k0 mxS)).plus] 105)).alloc (.cells #[.string (partOf s (signEnd s k0 mxS)).pre, .int .i64 (partOf s (signEnd s k0 mxS)).num, .int .i64 (partOf s (signEnd s k0 mxS)).plus] 105)) b s (partOf s (signEnd s k0 mxS)).at_ := (hr2.kept (row := none) (grown_alloc (grown_refl _ _) _) (by simp)).kept (row := none) (grown_alloc (grown_refl _ _) _) (by simp)
    have hle := (partOf_le hk1).1
    refine bodyPost_ret (v := .tuple #[.slice (some ⟨w2.heap.size + 1, 0, none⟩) 1 1, .bool (partOf s (signEnd s k0 mxS)).ok]) (by simp [results, Tryz.results88, go_sem]) rfl ⟨hG, ?_⟩
    cases hok : (partOf s (signEnd s k0 mxS)).ok with
    | false =>
      rw [show partsOf s k0 = none by simp [partsOf, hmx, hok]]
      exact ⟨_, _, rfl, hR, hle⟩
    | true =>
      rw [show partsOf s k0 = some ([(partOf s (signEnd s k0 mxS)).pv], (partOf s (signEnd s k0 mxS)).at_) by simp [partsOf, hmx, hok]]
      refine ⟨_, rfl, ?_, hR, hle, ?_⟩
      · have := World.ownsRow_lit (base := w.heap.size) (e := 105) (size := 3) (w2.alloc (.cells #[.string (partOf s (signEnd s k0 mxS)).pre, .int .i64 (partOf s (signEnd s k0 mxS)).num, .int .i64 (partOf s (signEnd s k0 mxS)).plus] 105)) #[.string (partOf s (signEnd s k0 mxS)).pre, .int .i64 (partOf s (signEnd s k0 mxS)).num, .int .i64 (partOf s (signEnd s k0 mxS)).plus] 1 (by simp; omega) (by decide) (by simp)
        simpa [Own3, flat3, PartR.pv] using this
      · have := (partOf_le hk1).2 hok
        simp; omega
  | true =>
    simp only [hmx] at hm
    have HK1 := Lib.hid hk1
    cases hlp : signB s (signEnd s k0 mxS) lpS with
    | false =>
      have hspec := Lib.hid (show partsOf s k0 = none by simp [partsOf, hmx, hlp])
      rw [hspec.out]
      go_enter Tryz.func88, Tryz.ntmps88
      go_wp2_with fail
      refine hm.out.mono ?_
      rintro e w1 ⟨rfl, hr1, hg1⟩
      have HL := Lib.hid (sign_any b s lpS (signEnd s k0 mxS) w1 hr1 HK1.out hs (by decide))
      simp only [hlp] at HL
      have HG1 := Lib.hid hg1
      clear hr1 hg1
      go_wp2_with fail
      refine HL.out.mono ?_
      rintro e w2 ⟨rfl, hr2, hg2⟩
      go_wp2_with fail
      exact bodyPost_ret (v := .tuple #[.slice none 0 0, .bool false]) (by simp [results, Tryz.results88, go_sem]) rfl ⟨grown_trans HG1.out hg2, _, _, rfl, hr2, signEnd_le HK1.out⟩
    | true =>
      have hk2 : signEnd s (signEnd s k0 mxS) lpS ≤ s.size := signEnd_le hk1
      have hspec := Lib.hid (show partsOf s k0 = listOf s (s.size + 1) (signEnd s (signEnd s k0 mxS) lpS) by simp [partsOf, hmx, hlp])
      go_enter Tryz.func88, Tryz.ntmps88
      go_wp2_with fail
      refine hm.out.mono ?_
      rintro e w1 ⟨rfl, hr1, hg1⟩
      have HL := Lib.hid (sign_any b s lpS (signEnd s k0 mxS) w1 hr1 HK1.out hs (by decide))
      simp only [hlp] at HL
      have HG1 := Lib.hid hg1
      clear hr1 hg1
      go_wp2_with fail
      refine HL.out.mono ?_
      rintro e w2 ⟨rfl, hr2, hg2⟩
      have HR2 := Lib.hid (And.intro hr2 (grown_trans HG1.out hg2))
      clear hr2 hg2 HG1 HL hm
      generalize hKK : signEnd s (signEnd s k0 mxS) lpS = K at *
      clear hKK HK1 hk1
      go_wp2_with fail
      go_loopw [6] (fun v wr => ∃ (ps : List PV) (k f : Nat), Hid (partsOf s k0 = (listOf s (f + 1) k).map fun r => (ps ++ r.1, r.2)) ∧ k ≤ s.size ∧ s.size - k ≤ f ∧ ps.length ≤ k ∧ Own3 wr w.heap.size v ps ∧ Rd wr b s k ∧ w.grownBy wr (some b)) (fun _ wr => s.size - atOf wr b)
      case atStart => exact ⟨[], K, s.size, Lib.hid (by rw [hspec.out]; cases listOf s (s.size + 1) K <;> simp), hk2, by omega, by simp, World.ownsRow_nil _ _ _ _, HR2.out.1, HR2.out.2⟩
      case round =>
        obtain ⟨ps, k, f, hx, hk, hf, hpl, hown, hrd, hg⟩ := hrel
        have HP := Lib.hid (part_rd b s k _ hrd hk hs)
        have HRG := Lib.hid (And.intro hrd hg)
        have HOwn := Lib.hid hown
        obtain ⟨hq1, hq2⟩ := partOf_le hk
        have HRG0 := Lib.hid hrd
        clear hrd hg hown
        cases hok : (partOf s k).ok with
        | false =>
          have hn := Lib.hid (show partsOf s k0 = none by rw [hx.out]; simp [listOf, hok])
          simp only [hok] at HP
          rw [hn.out]
          go_wp2_with fail
          refine HP.out.mono ?_
          rintro e w3 ⟨rfl, hr3, hg3⟩
          have HH := Lib.hid (And.intro hr3 (grown_trans HRG.out.2 hg3))
          clear hr3 hg3
          go_wp2_with fail
          have hG := grown_alloc HH.out.2 (.cells #[.string (partOf s k).pre, .int .i64 (partOf s k).num, .int .i64 (partOf s k).plus] 105)
          exact bodyPost_ret (v := .tuple #[.slice none 0 0, .bool false]) (by simp [results, Tryz.results88, go_sem]) rfl ⟨hG, _, _, rfl, HH.out.1.kept (row := none) (grown_alloc (grown_refl _ _) _) (by simp), hq1⟩
        | true =>
          have hklt := hq2 hok
          simp only [hok] at HP
          go_wp2_with fail
          refine HP.out.mono ?_
          rintro e w3 ⟨rfl, hr3, hg3⟩
          have HH := Lib.hid (And.intro hr3 (And.intro (grown_trans HRG.out.2 hg3) (HOwn.out.kept hg3 hlt)))
          have hs3 := HH.out.2.1.size
          clear hr3 hg3
          have HA : ∀ o1 o2, Own3 ((w3.alloc o1).alloc o2) w.heap.size u6 ps := fun o1 o2 => World.ownsRow.alloc (World.ownsRow.alloc HH.out.2.2 o1) o2
          have HAH := Lib.hid HA
          clear HA
          go_wp2_with (at_builtin; refine wpList_append_own _ rfl _ _ 96 rfl w.heap.size 105 i0 (.agg #[.string ⟨#[]⟩, .int .i64 0, .int .i64 0]) 3 32 Tryz.underlying96 hi hz0 hz1 hz2 rfl (by decide) _ _ _ rfl (HAH.out _ _) ⟨w3.heap.size + 1, 0, none⟩ 1 1 [.string (partOf s k).pre, .int .i64 (partOf s k).num, .int .i64 (partOf s k).plus] rfl rfl ?c1 ?c2 ?c3 ?c4 ?c5 ?_)
          case c1 => exact cell_three_new _ _ rfl (by simp)
          case c2 => intro u hu; simp at hu; rcases hu with rfl | rfl | rfl <;> rfl
          case c3 => unfold maxLen; omega
          case c4 => omega
          case c5 => simp; omega
          intro v' w5 hown' hgrow _
          have hrow : ∀ j, u6.ownBlock = some j → w.heap.size ≤ j := fun j hj => (World.ownsRow.lt HH.out.2.2 j hj).1
          have HF := Lib.hid (show Rd w5 b s (partOf s k).at_ ∧ w.grownBy w5 (some b) ∧ Own3 w5 w.heap.size v' (ps ++ [(partOf s k).pv]) from by
            refine ⟨?_, ?_, ?_⟩
            · have h1 : Rd _ b s (partOf s k).at_ := (HH.out.1.kept (row := none) (grown_alloc (grown_refl _ _) (.cells #[.string (partOf s k).pre, .int .i64 (partOf s k).num, .int .i64 (partOf s k).plus] 105)) (by simp)).kept (row := none) (grown_alloc (grown_refl _ _) (.cells #[.string (partOf s k).pre, .int .i64 (partOf s k).num, .int .i64 (partOf s k).plus] 105)) (by simp)
              exact h1.kept hgrow (by intro e; have := hrow b e.symm; omega)
            · exact World.grownBy.andThen (grown_alloc (grown_alloc HH.out.2.1 _) _) hgrow (fun j hj => .inl (hrow j hj))
            · unfold Own3
              rw [flat3_append, List.length_append]
              exact hown')
          have hs5 := HF.out.2.1.size
          clear hgrow hown' hrow HH HAH HOwn HRG
          have hsg := Lib.hid (sign_any b s rpS (partOf s k).at_ w5 HF.out.1 hq1 hs (by decide))
          have hr1 : signEnd s (partOf s k).at_ rpS ≤ s.size := signEnd_le hq1
          cases hrp : signB s (partOf s k).at_ rpS with
          | true =>
            have hn := Lib.hid (show partsOf s k0 = some (ps ++ [(partOf s k).pv], signEnd s (partOf s k).at_ rpS) by rw [hx.out]; simp [listOf, hok, hrp])
            simp only [hrp] at hsg
            go_wp2_with fail
            refine hsg.out.mono ?_
            rintro e w6 ⟨rfl, hr6, hg6⟩
            go_wp2_with fail
            rw [hn.out]
            exact bodyPost_ret (v := .tuple #[_, .bool true]) (by simp [results, Tryz.results88, go_sem]) rfl ⟨grown_trans HF.out.2.1 hg6, _, rfl, HF.out.2.2.kept hg6 hlt, hr6, hr1, by simp; omega⟩
          | false =>
            simp only [hrp] at hsg
            have hc1 : signEnd s (signEnd s (partOf s k).at_ rpS) cmS ≤ s.size := signEnd_le hr1
            have hc2 := le_signEnd s (partOf s k).at_ rpS
            have hc3 := le_signEnd s (signEnd s (partOf s k).at_ rpS) cmS
            cases hcm : signB s (signEnd s (partOf s k).at_ rpS) cmS with
            | false =>
              have hn := Lib.hid (show partsOf s k0 = none by rw [hx.out]; simp [listOf, hok, hrp, hcm])
              go_wp2_with fail
              refine hsg.out.mono ?_
              rintro e w6 ⟨rfl, hr6, hg6⟩
              have HC := Lib.hid (sign_any b s cmS _ w6 hr6 hr1 hs (by decide))
              simp only [hcm] at HC
              have HG6 := Lib.hid hg6
              clear hr6 hg6
              go_wp2_with fail
              refine HC.out.mono ?_
              rintro e w7 ⟨rfl, hr7, hg7⟩
              go_wp2_with fail
              rw [hn.out]
              exact bodyPost_ret (v := .tuple #[.slice none 0 0, .bool false]) (by simp [results, Tryz.results88, go_sem]) rfl ⟨grown_trans (grown_trans HF.out.2.1 HG6.out) hg7, _, _, rfl, hr7, hc1⟩
            | true =>
              have hx2 := Lib.hid (show partsOf s k0 = (listOf s (f - 1 + 1) (signEnd s (signEnd s (partOf s k).at_ rpS) cmS)).map fun r => (ps ++ [(partOf s k).pv] ++ r.1, r.2) by
                rw [hx.out, show f - 1 + 1 = f by omega]
                simp only [listOf, hok, hrp, hcm]
                cases listOf s f (signEnd s (signEnd s (partOf s k).at_ rpS) cmS) <;> simp)
              go_wp2_with fail
              refine hsg.out.mono ?_
              rintro e w6 ⟨rfl, hr6, hg6⟩
              have HC := Lib.hid (sign_any b s cmS _ w6 hr6 hr1 hs (by decide))
              simp only [hcm] at HC
              have HG6 := Lib.hid hg6
              clear hr6 hg6
              go_wp2_with fail
              refine HC.out.mono ?_
              rintro e w7 ⟨rfl, hr7, hg7⟩
              have HR7 := Lib.hid (And.intro hr7 hg7)
              clear hr7 hg7
              go_wp2
              go_roundw
              case rel => exact ⟨ps ++ [(partOf s k).pv], signEnd s (signEnd s (partOf s k).at_ rpS) cmS, f - 1, hx2, hc1, by omega, by simp; omega, (HF.out.2.2.kept HG6.out hlt).kept HR7.out.2 hlt, HR7.out.1, grown_trans (grown_trans HF.out.2.1 HG6.out) HR7.out.2⟩
              case measure => rw [atOf_rd HR7.out.1, atOf_rd HRG0.out]; omega
end Go.Proofs.YtipnabbdhmapkaaGreatDoor
