/- What the reference's subst makes of a term, as a function; it is what the program's makes. -/
import Derived.Test.YtobaeeobfcffoaaDoorLis
namespace Go.Proofs.YtobaeeobfcffoaaDoor
open Go.RowKit

structure Su where
  n : Nat
  e : Int
  t : Tm
structure SuL where
  n : Nat
  e : Int
  ts : List Tm
mutual
/-- The reference's subst: so many nodes are counted before; with too many of them it stops. -/
def suT (vals : List Tm) : Tm → Nat → Nat → Su
  | .mk k i nm ls ks, D, n => if 4096 < n then ⟨n, 0, .mk k i nm ls ks⟩
    else if k = 0 then (if (D : Int) ≤ i then (match vals[(i - D).toNat]? with
        | some x => ⟨n + szT x, (cpT (rfR D 0) x 0).e, (cpT (rfR D 0) x 0).t⟩
        | none => ⟨n + 1, big (i - vals.length), vr (i - vals.length)⟩) else ⟨n + 1, 0, .mk k i nm ls ks⟩)
    else ⟨(suL vals ks k D 0 (n + 1)).n, (suL vals ks k D 0 (n + 1)).e, .mk k i nm ls (suL vals ks k D 0 (n + 1)).ts⟩
def suL (vals : List Tm) : List Tm → Int → Nat → Nat → Nat → SuL
  | [], _, _, _, n => ⟨n, 0, []⟩
  | q :: r, k, D, j, n => ⟨(suL vals r k D (j + 1) (suT vals q (D + bbN k j) n).n).n, er (suT vals q (D + bbN k j) n).e (suL vals r k D (j + 1) (suT vals q (D + bbN k j) n).n).e, (suT vals q (D + bbN k j) n).t :: (suL vals r k D (j + 1) (suT vals q (D + bbN k j) n).n).ts⟩
end
theorem suT_big {vals : List Tm} {t : Tm} {D n : Nat} (h : 4096 < n) : suT vals t D n = ⟨n, 0, t⟩ := by
  cases t with
  | mk k i nm ls ks => rw [suT, if_pos h]
theorem suL_big {vals : List Tm} : ∀ {ks : List Tm} {k : Int} {D j n : Nat}, 4096 < n → suL vals ks k D j n = ⟨n, 0, ks⟩
  | [], _, _, _, _, _ => by rw [suL]
  | q :: r, k, D, j, n, h => by
    rw [suL, suT_big h, suL_big h]
    rfl
mutual
theorem suT_le {vals : List Tm} (hv : ∀ x ∈ vals, szT x ≤ 1000000) : ∀ (t : Tm) (D n : Nat), n ≤ 1500000 → (suT vals t D n).n ≤ 1500000
  | .mk k i nm ls ks, D, n, hn => by
    rw [suT]
    split
    · exact hn
    · split
      · split
        · split
          · rename_i x hx
            have := hv x (List.mem_of_getElem? hx)
            show n + _ ≤ _
            omega
          · show n + 1 ≤ _; omega
        · show n + 1 ≤ _; omega
      · exact suL_le hv ks k D 0 (n + 1) (by omega)
theorem suL_le {vals : List Tm} (hv : ∀ x ∈ vals, szT x ≤ 1000000) : ∀ (ks : List Tm) (k : Int) (D j n : Nat), n ≤ 1500000 → (suL vals ks k D j n).n ≤ 1500000
  | [], _, _, _, n, hn => by rw [suL]; exact hn
  | q :: r, k, D, j, n, hn => by
    rw [suL]
    exact suL_le hv r k D (j + 1) _ (suT_le hv q _ n hn)
end
mutual
theorem cp_shn (b f : Int) : ∀ (t : Tm) (d : Nat), AllT Wv t d → (cpT (shR b f) t d).n = szT t
  | .mk k i nm ls ks, d, h => by
    by_cases hk : k = 0
    · obtain ⟨e, hi⟩ := h.here.eq hk
      rw [e, szT_vr, sh_var]
      split <;> rfl
    · rw [cpT_none (shR_not hk), szT]
      rw [AllT] at h
      show 1 + _ = 1 + _
      rw [cp_shnL b f ks k d 0 h.2]
theorem cp_shnL (b f : Int) : ∀ (ks : List Tm) (k : Int) (d j : Nat), AllL Wv ks k d j → (cpL (shR b f) ks k d j).n = szL ks
  | [], _, _, _, _ => by rw [cpL, szL]
  | q :: r, k, d, j, h => by
    rw [AllL] at h
    rw [cpL, szL]
    show _ + _ = _
    rw [cp_shn b f q _ h.1, cp_shnL b f r k d (j + 1) h.2]
end
/-- What the two walks make of a term agrees. -/
def SuAg (n : Nat) (X : Ou) (S : Su) : Prop := (n + X.n ≤ 4096 → S.n = n + X.n ∧ S.e = X.e ∧ (X.e = 0 → S.t = X.t)) ∧ (4096 < n + X.n → 4096 < S.n)
def SuAgL (n : Nat) (X : OuL) (S : SuL) : Prop := (n + X.n ≤ 4096 → S.n = n + X.n ∧ S.e = X.e ∧ (X.e = 0 → S.ts = X.ts)) ∧ (4096 < n + X.n → 4096 < S.n)
theorem su_big {vals : List Tm} {t : Tm} {D n : Nat} {X : Ou} (h : 4096 < n) : SuAg n X (suT vals t D n) := by
  rw [suT_big h]
  exact ⟨fun hn => by omega, fun _ => h⟩
theorem su_var {vals : List Tm} {dep i : Int} {d n : Nat} (hdep : 0 ≤ dep) (hvals : ∀ x ∈ vals, AllT Wg x 0 ∧ AllT Wv x 0) (hn : ¬ 4096 < n) (hi : 0 ≤ i ∧ i < 65536 + d) : SuAg n (cpT (undR vals dep) (vr i) d) (suT vals (vr i) ((min dep 65536).toNat + d) n) := by
  have es : suT vals (vr i) ((min dep 65536).toNat + d) n = (if (((min dep 65536).toNat + d : Nat) : Int) ≤ i then (match vals[(i - (((min dep 65536).toNat + d : Nat) : Int)).toNat]? with
        | some x => ⟨n + szT x, (cpT (rfR (((min dep 65536).toNat + d : Nat) : Int) 0) x 0).e, (cpT (rfR (((min dep 65536).toNat + d : Nat) : Int) 0) x 0).t⟩
        | none => ⟨n + 1, big (i - vals.length), vr (i - vals.length)⟩) else ⟨n + 1, 0, vr i⟩) := by
    show suT vals (.mk 0 i ⟨#[]⟩ [] []) _ n = _
    rw [suT, if_neg hn, if_pos rfl]
    rfl
  rw [es, und_var]
  clear es
  have hmin : (dep ≤ 65536 ∧ min dep 65536 = dep) ∨ (65536 < dep ∧ min dep 65536 = 65536) := by
    by_cases h : dep ≤ 65536
    · exact .inl ⟨h, Int.min_eq_left h⟩
    · exact .inr ⟨by omega, Int.min_eq_right (by omega)⟩
  generalize min dep 65536 = m at *
  by_cases hc : (d : Int) ≤ i ∧ dep ≤ i - d
  · have em : m = dep := by omega
    subst em
    have e2 : ((m.toNat + d : Nat) : Int) = m + d := by omega
    rw [if_pos hc, e2, if_pos (by omega), show i - (m + (d : Int)) = i - d - m by omega]
    cases hx : vals[(i - d - m).toNat]? with
    | none => exact ⟨fun _ => ⟨rfl, rfl, fun _ => rfl⟩, fun h => h⟩
    | some x =>
      have hg := hvals x (List.mem_of_getElem? hx)
      have hag : (cpT (shR (m + d) 0) x 0).ag (cpT (rfR (m + d) (min 0 65536)) x 0) := cpT_ag x 0 (AllT.mono (fun t d h => rf_ag (Int.le_refl _) t d h) x 0 hg.1)
      rw [show min (0 : Int) 65536 = 0 from rfl] at hag
      have hn' := cp_shn (m + d) 0 x 0 hg.2
      show SuAg n (cpT (shR (m + d) 0) x 0) ⟨n + szT x, (cpT (rfR (m + d) 0) x 0).e, (cpT (rfR (m + d) 0) x 0).t⟩
      exact ⟨fun _ => ⟨by rw [hn'], hag.2.2.1.symm, fun h => (hag.2.2.2 h).symm⟩, fun h => by rw [hn'] at h; exact h⟩
  · rw [if_neg hc, if_neg (by omega)]
    exact ⟨fun _ => ⟨rfl, rfl, fun _ => rfl⟩, fun h => h⟩
mutual
theorem su_cp {vals : List Tm} {dep : Int} (hdep : 0 ≤ dep) (hvals : ∀ x ∈ vals, AllT Wg x 0 ∧ AllT Wv x 0) : ∀ (t : Tm) (d n : Nat), AllT Wg t d → SuAg n (cpT (undR vals dep) t d) (suT vals t ((min dep 65536).toNat + d) n)
  | .mk k i nm ls ks, d, n, h => by
    by_cases hn : 4096 < n
    · exact su_big hn
    · by_cases hk : k = 0
      · obtain ⟨e, hi⟩ := h.here.1.eq hk
        have hi2 := h.here.2 hk
        rw [e]
        exact su_var hdep hvals hn ⟨hi, hi2⟩
      · rw [cpT_none (undR_not hk), suT, if_neg hn, if_neg hk]
        rw [AllT] at h
        obtain ⟨h1, h2⟩ := su_cpL hdep hvals ks k d 0 (n + 1) h.2
        refine ⟨fun hh => ?_, fun hh => ?_⟩
        · have hh : n + (1 + (cpL (undR vals dep) ks k d 0).n) ≤ 4096 := hh
          obtain ⟨a1, a2, a3⟩ := h1 (by omega)
          exact ⟨by show (suL vals ks k ((min dep 65536).toNat + d) 0 (n + 1)).n = n + (1 + (cpL (undR vals dep) ks k d 0).n); omega, a2, fun h0 => by show Tm.mk _ _ _ _ _ = Tm.mk _ _ _ _ _; rw [a3 h0]⟩
        · have hh : 4096 < n + (1 + (cpL (undR vals dep) ks k d 0).n) := hh
          exact h2 (by omega)
theorem su_cpL {vals : List Tm} {dep : Int} (hdep : 0 ≤ dep) (hvals : ∀ x ∈ vals, AllT Wg x 0 ∧ AllT Wv x 0) : ∀ (ks : List Tm) (k : Int) (d j n : Nat), AllL Wg ks k d j → SuAgL n (cpL (undR vals dep) ks k d j) (suL vals ks k ((min dep 65536).toNat + d) j n)
  | [], _, _, _, n, _ => by
    rw [cpL, suL]
    exact ⟨fun _ => ⟨rfl, rfl, fun _ => rfl⟩, fun h => h⟩
  | q :: r, k, d, j, n, h => by
    rw [AllL] at h
    obtain ⟨a1, a2⟩ := su_cp hdep hvals q (d + bbN k j) n h.1
    rw [cpL, suL]
    rw [show (min dep 65536).toNat + (d + bbN k j) = (min dep 65536).toNat + d + bbN k j by omega] at a1 a2
    by_cases hx : n + (cpT (undR vals dep) q (d + bbN k j)).n ≤ 4096
    · obtain ⟨x1, x2, x3⟩ := a1 hx
      rw [x1, x2]
      obtain ⟨b1, b2⟩ := su_cpL hdep hvals r k d (j + 1) (n + (cpT (undR vals dep) q (d + bbN k j)).n) h.2
      refine ⟨fun hh => ?_, fun hh => ?_⟩
      · have hh : n + ((cpT (undR vals dep) q (d + bbN k j)).n + (cpL (undR vals dep) r k d (j + 1)).n) ≤ 4096 := hh
        obtain ⟨y1, y2, y3⟩ := b1 (by omega)
        refine ⟨by rw [y1]; show _ + _ + _ = n + (_ + _); omega, by show er _ _ = er _ _; rw [y2], fun h0 => ?_⟩
        have h0' := er_eq_zero.1 h0
        show _ :: _ = _ :: _
        rw [x3 h0'.1, y3 h0'.2]
      · have hh : 4096 < n + ((cpT (undR vals dep) q (d + bbN k j)).n + (cpL (undR vals dep) r k d (j + 1)).n) := hh
        exact b2 (by omega)
    · have hb := a2 (by omega)
      refine ⟨fun hh => ?_, fun _ => ?_⟩
      · have hh : n + ((cpT (undR vals dep) q (d + bbN k j)).n + (cpL (undR vals dep) r k d (j + 1)).n) ≤ 4096 := hh
        omega
      · show 4096 < (suL vals r k _ (j + 1) _).n
        rw [suL_big hb]
        exact hb
end
/-- What the reference's Under gives. -/
def ruS (vals : List Tm) (dep : Int) (t : Tm) : Su := suT vals t (min dep 65536).toNat 0
def ruE (vals : List Tm) (dep : Int) (t : Tm) : Int := if dep < 0 then 2 else if 4096 < (ruS vals dep t).n then 5 else if (ruS vals dep t).e ≠ 0 then (ruS vals dep t).e else if 200 < dpT (ruS vals dep t).t then 7 else 0
def ruO (vals : List Tm) (dep : Int) (t : Tm) : Tm := if ruE vals dep t = 0 then (ruS vals dep t).t else nilT
theorem ru_un {vals : List Tm} {dep : Int} {t : Tm} (h : AllT Wg t 0) (hvals : ∀ x ∈ vals, AllT Wg x 0 ∧ AllT Wv x 0) : ruE vals dep t = unE vals dep t ∧ ruO vals dep t = unO vals dep t := by
  by_cases hd : dep < 0
  · have e1 : ruE vals dep t = 2 := by unfold ruE; rw [if_pos hd]
    have e2 : unE vals dep t = 2 := by unfold unE; rw [if_pos hd]
    unfold ruO unO
    rw [e1, e2]
    exact ⟨rfl, rfl⟩
  · obtain ⟨h1, h2⟩ := su_cp (vals := vals) (dep := dep) (by omega) hvals t 0 0 h
    rw [Nat.add_zero] at h1 h2
    rw [Nat.zero_add] at h1 h2
    have hE : ruE vals dep t = unE vals dep t := by
      unfold ruE unE errO
      rw [if_neg hd, if_neg hd]
      by_cases hn : 4096 < (cpT (undR vals dep) t 0).n
      · rw [if_pos (show 4096 < (ruS vals dep t).n from h2 hn), if_pos hn, if_neg (fun e => by have := e.1; omega)]
      · obtain ⟨a1, a2, a3⟩ := h1 (by omega)
        have a1' : (ruS vals dep t).n = (cpT (undR vals dep) t 0).n := a1
        have a2' : (ruS vals dep t).e = (cpT (undR vals dep) t 0).e := a2
        rw [if_neg (by omega), if_neg hn, a2']
        by_cases he : (cpT (undR vals dep) t 0).e = 0
        · have a3' : (ruS vals dep t).t = (cpT (undR vals dep) t 0).t := a3 he
          rw [a3', he, if_neg (by simp)]
          by_cases hp : 200 < dpT (cpT (undR vals dep) t 0).t
          · rw [if_pos hp, if_pos ⟨rfl, hp⟩]
          · rw [if_neg hp, if_neg (fun e => hp e.2)]
        · rw [if_pos he, if_neg (fun e => he e.1)]
    refine ⟨hE, ?_⟩
    unfold ruO unO
    rw [hE]
    by_cases hz : unE vals dep t = 0
    · rw [if_pos hz, if_pos hz]
      obtain ⟨h3, h4⟩ := errO_zero (unE_zero hz).2
      exact (h1 h3).2.2 h4
    · rw [if_neg hz, if_neg hz]
end Go.Proofs.YtobaeeobfcffoaaDoor
