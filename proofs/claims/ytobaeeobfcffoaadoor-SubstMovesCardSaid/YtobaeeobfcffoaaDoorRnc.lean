/- Rename of the program: its closure. -/
import Derived.Test.YtobaeeobfcffoaaDoorShp
namespace Go.Proofs.YtobaeeobfcffoaaDoor
open Go.RowKit

/-- The slice of integers at address P reads, in w, as ps; its cells lie below block B. -/
def IA (w : World) (B : Nat) (P : Option Addr) (ps : List Int) : Prop :=
  ps.length * 8 ≤ 140737488355328 ∧ (0 < ps.length → ∃ b off, P = some ⟨b, off, none⟩ ∧ b < B ∧ ∀ j p, ps[j]? = some p → w.cell? ⟨b, off + j, none⟩ = some (.int .i64 p))
theorem IA.keep {w w' : World} {B : Nat} {P : Option Addr} {ps : List Int} (h : IA w B P ps) (hk : ∀ p : Addr, p.block < B → w'.cell? p = w.cell? p) : IA w' B P ps :=
  ⟨h.1, fun hn => by
    obtain ⟨b, off, e, hb, hc⟩ := h.2 hn
    exact ⟨b, off, e, hb, fun j p hj => (hk ⟨b, off + j, none⟩ hb).trans (hc j p hj)⟩⟩
theorem IA.next {w w' : World} {B : Nat} {P : Option Addr} {ps : List Int} (h : IA w B P ps) (hb : Below B w w') : IA w' B P ps := h.keep (fun _ hp => hb.cell hp)
theorem IA.more {w : World} {B B' : Nat} {P : Option Addr} {ps : List Int} (h : IA w B P ps) (hB : B ≤ B') : IA w B' P ps :=
  ⟨h.1, fun hn => by
    obtain ⟨b, off, e, hb, hc⟩ := h.2 hn
    exact ⟨b, off, e, by omega, hc⟩⟩
section
variable {pb : Nat} {Old : Nat → Prop} {Inv : Nat → Nat → Nat → Int → World → Prop} {M : World → Nat → Prop}
set_option maxRecDepth 100000 in
set_option maxHeartbeats 4000000 in
theorem rename1_any (hB : Bld pb Old Inv M) {pt : Nat} {tos : List Int} {AT : Option Addr} {ct : Nat} (hcap : ∀ {d n f e w}, Inv d n f e w → w.cell? ⟨pt, 0, none⟩ = some (.slice AT tos.length ct) ∧ ∀ j p, tos[j]? = some p → ∃ ab ao, AT = some ⟨ab, ao, none⟩ ∧ w.cell? ⟨ab, ao + j, none⟩ = some (.int .i64 p)) {d n f : Nat} {e0 : Int} {w : World} (hi : Inv (d + 1) n f e0 w) (hn : n ≤ 4096)
    (k i : Int) (nm : ByteArray) (AL : Option Addr) (nl cl : Nat) (AK : Option Addr) (nk ck : Nat) (ls : List (Int × List (Int × Int))) (ks : List Tm) (hi0 : k = 0 → 0 ≤ i ∧ i ≤ 1000000000) (hd : d ≤ 1000000000) :
    Calls Tryd.prog 40 #[.pointer (some ⟨pb, 0, none⟩), .agg #[.int .i64 k, .int .i64 i, .string nm, .slice AL nl cl, .slice AK nk ck], .int .i64 d, .pointer (some ⟨pt, 0, none⟩)] w
      (fun e w' => RepPost Old Inv M d n f e0 w e w' (renR tos (.mk k i nm ls ks) d)) := by
  have ho : ∀ k, Old k → k < w.heap.size := fun _ => hB.old hi
  have HK0 := Lib.hid (Kp.new hB (Kp.refl M w) hi ((Below.refl _ _).alloc (Nat.le_refl _) (.cells #[.int .i64 k, .int .i64 i, .string nm, .slice AL nl cl, .slice AK nk ck] 25)))
  have HX0 := Lib.hid (Bx.new hB hi (.int .i64 k) (.int .i64 i) (.string nm) (.slice AL nl cl) (.slice AK nk ck))
  have HK := Lib.hid (Kp.new hB HK0.out.1 HK0.out.2 ((Below.refl _ _).alloc (Nat.le_refl _) (.cells #[.int .i64 0, .int .i64 0, .string ⟨#[]⟩, .slice none 0 0, .slice none 0 0] 25)))
  have HX := Lib.hid (HX0.out.next (Kp.new hB (Kp.refl M _) HK0.out.2 ((Below.refl _ _).alloc (Nat.le_refl _) (.cells #[.int .i64 0, .int .i64 0, .string ⟨#[]⟩, .slice none 0 0, .slice none 0 0] 25))).1)
  have HY := Lib.hid (Bx.new hB HK0.out.2 (.int .i64 0) (.int .i64 0) (.string ⟨#[]⟩) (.slice none 0 0) (.slice none 0 0))
  simp only [World.size_alloc] at HY
  have HB := Lib.hid hB
  have HC := Lib.hid (show ∀ (d n f : Nat) (e : Int) (w : World), Inv d n f e w → w.cell? ⟨pt, 0, none⟩ = some (.slice AT tos.length ct) ∧ ∀ j p, tos[j]? = some p → ∃ ab ao, AT = some ⟨ab, ao, none⟩ ∧ w.cell? ⟨ab, ao + j, none⟩ = some (.int .i64 p) from fun d n f e w h => hcap h)
  generalize hr : renR tos (.mk k i nm ls ks) d = r
  have HRR := Lib.hid hr
  clear hr
  clear hi hB ho HK0 HX0 hcap
  go_enter Tryd.func40, Tryd.ntmps40
  go_wp2_with fail
  refine (sfree_any k i d _ _ _ _ (fun e => by have := hi0 e; omega) (by omega)).mono ?_
  rintro e w1 ⟨rfl, hw1⟩
  have hb1 := ((Below.refl _ ((w.alloc (.cells #[.int .i64 k, .int .i64 i, .string nm, .slice AL nl cl, .slice AK nk ck] 25)).alloc (.cells #[.int .i64 0, .int .i64 0, .string ⟨#[]⟩, .slice none 0 0, .slice none 0 0] 25))).alloc (Nat.le_refl _) (.cells #[.int .i64 k, .int .i64 i, .string nm, .slice AL nl cl, .slice AK nk ck] 25))
  rw [← hw1] at hb1
  have hk1 := Kp.new HB.out (Kp.refl M _) HK.out.2 hb1
  have HK1 : Hid (Kp M w w1 ∧ Inv (d + 1) n f e0 w1) := Lib.hid ⟨HK.out.1.trans hk1.1, hk1.2⟩
  have HX1 := Lib.hid (HX.out.next hk1.1)
  have HY1 := Lib.hid (HY.out.next hk1.1)
  clear hw1 hb1 hk1 HK HX HY
  obtain ⟨x0, x1, x2, x3, x4, _, _, _, _, _, _, _⟩ := HX1.out
  obtain ⟨y0, y1, y2, y3, y4, f0, f1, f2, f3, f4, _, _⟩ := HY1.out
  have g0 := (HC.out _ _ _ _ _ HK1.out.2).1
  by_cases hfree : k = 0 ∧ (d : Int) ≤ i
  · rw [if_pos hfree, decide_eq_true hfree]
    obtain ⟨hk0, hdi⟩ := hfree
    have hi0 := hi0 hk0
    obtain ⟨m, hm⟩ : ∃ m : Nat, i - (d : Int) = (m : Int) := ⟨(i - d).toNat, by omega⟩
    have HR0 := Lib.hid (show r = (match tos[m]? with | some x => if x < 0 ∨ 65535 < x then some ⟨0, 0, 24, nilT⟩ else some ⟨1, 0, big (x + d), vr (x + d)⟩ | none => some ⟨0, 0, 24, nilT⟩) by rw [← HRR.out]; simp only [renR]; rw [if_pos ⟨hk0, hdi⟩, hm, show ((m : Int)).toNat = m by omega]; rfl)
    rw [hm]
    by_cases hml : m < tos.length
    case' neg =>
      have h1 : decide ((tos.length : Int) ≤ (m : Int)) = true := decide_eq_true (by omega)
      have HR := Lib.hid (show r = some ⟨0, 0, 24, nilT⟩ by rw [HR0.out, List.getElem?_eq_none_iff.2 (by omega)])
      go_upto_region 5 with fail
    case' pos =>
      have h1 : decide ((tos.length : Int) ≤ (m : Int)) = false := decide_eq_false (by omega)
      have hp0 : tos[m]? = some tos[m] := List.getElem?_eq_getElem hml
      obtain ⟨ab, ao, rfl, gp⟩ := (HC.out _ _ _ _ _ HK1.out.2).2 m tos[m] hp0
      rw [hp0] at HR0
      generalize tos[m] = p at *
      clear hp0
      by_cases hlo : p < 0
      case' pos =>
        have h2 : decide (p < 0) = true := decide_eq_true hlo
        have HR := Lib.hid (show r = some ⟨0, 0, 24, nilT⟩ by rw [HR0.out]; exact if_pos (.inl hlo))
        go_upto_region 5 with fail
      case' neg =>
        have h2 : decide (p < 0) = false := decide_eq_false hlo
        by_cases hhi : 65535 < p
        case' pos =>
          have h3 : decide ((65535 : Int) < p) = true := decide_eq_true hhi
          have HR := Lib.hid (show r = some ⟨0, 0, 24, nilT⟩ by rw [HR0.out]; exact if_pos (.inr hhi))
          go_upto_region 5 with fail
        case' neg =>
          have h3 : decide ((65535 : Int) < p) = false := decide_eq_false hhi
          have HR := Lib.hid (show r = some ⟨1, 0, big (p + d), vr (p + d)⟩ by rw [HR0.out]; exact if_neg (by omega))
          go_wp2_with fail
          refine (moved_any HB.out HK1.out.2 hn (p + d) (by omega)).mono ?_
          rintro e w3 ⟨hkk, ⟨hnn, v, rfl, htm, hinv⟩ | ⟨hnn, rfl⟩⟩
          · have HK3 := Lib.hid (And.intro (HK1.out.1.trans hkk) hinv)
            have HY3 := Lib.hid (HY1.out.next hkk)
            unfold vr at htm
            rw [TmP] at htm
            obtain ⟨AL', cl', AK', ck', rfl, _, _, _⟩ := htm
            clear x0 x1 x2 x3 x4 g0 gp hkk hinv HX1 y0 y1 y2 y3 y4 f0 f1 f2 f3 f4
            obtain ⟨y0, y1, y2, y3, y4, f0, f1, f2, f3, f4, _, _⟩ := HY3.out
            go_wp2_with fail
            have h4 := Bx.put HB.out HY3.out HK3.out (by omega) (.int .i64 0) (.int .i64 (p + d)) (.string ⟨#[]⟩) (.slice AL' 0 cl') (.slice AK' 0 ck')
            generalize (((((w3.setCell ⟨w.heap.size + 1, 0, none⟩ (.int .i64 0)).setCell ⟨w.heap.size + 1, 1, none⟩ (.int .i64 (p + d))).setCell ⟨w.heap.size + 1, 2, none⟩ (.string ⟨#[]⟩)).setCell ⟨w.heap.size + 1, 3, none⟩ (.slice AL' 0 cl')).setCell ⟨w.heap.size + 1, 4, none⟩ (.slice AK' 0 ck')) = w4 at h4 ⊢
            clear y0 y1 y2 y3 y4 f0 f1 f2 f3 f4
            obtain ⟨y0, y1, y2, y3, y4, _, _, _, _, _, _, _⟩ := h4.2
            exact bodyPost_ret (v := .tuple #[.agg #[.int .i64 0, .int .i64 (p + d), .string ⟨#[]⟩, .slice AL' 0 cl', .slice AK' 0 ck'], .bool true]) (by simp [results, Tryd.results40, go_sem, y0, y1, y2, y3, y4]) rfl (by rw [HR.out]; exact ⟨h4.1.1, .inl ⟨hnn, _, rfl, tmP_vr' _ _ _ _ _ _ _, h4.1.2⟩⟩)
          · have HK3 := Lib.hid (HK1.out.1.trans hkk)
            clear x0 x1 x2 x3 x4 g0 gp hkk HX1
            go_wp2_with fail
            exact ⟨rfl, by rw [HR.out]; exact ⟨HK3.out, .inr ⟨hnn, rfl⟩⟩⟩
    all_goals
      go_wp2_with fail
      refine (fail_any pb e0 24 _ (HB.out.e_ HK1.out.2) (HB.out.fz HK1.out.2).2).mono ?_
      rintro e w2 ⟨rfl, hw2⟩
      have HK2 : Hid (Kp M w w2 ∧ Inv (d + 1) n f (er e0 24) w2) := Lib.hid (by rw [hw2]; exact setE_er HB.out HK1.out.1 HK1.out.2)
      have HY2 := Lib.hid (show Bx M Old (w.heap.size + 1) (.int .i64 0) (.int .i64 0) (.string ⟨#[]⟩) (.slice none 0 0) (.slice none 0 0) w2 by rw [hw2]; exact HY1.out.next (setE_er HB.out (Kp.refl _ _) HK1.out.2).1)
      clear x0 x1 x2 x3 x4 y0 y1 y2 y3 y4 f0 f1 f2 f3 f4 g0 hw2 HK1 HX1 HY1
      obtain ⟨y0, y1, y2, y3, y4, f0, f1, f2, f3, f4, _, _⟩ := HY2.out
      go_wp2_with fail
      have h4 := Bx.put HB.out HY2.out HK2.out (by omega) (.int .i64 0) (.int .i64 0) (.string ⟨#[]⟩) (.slice none 0 0) (.slice none 0 0)
      generalize (((((w2.setCell ⟨w.heap.size + 1, 0, none⟩ (.int .i64 0)).setCell ⟨w.heap.size + 1, 1, none⟩ (.int .i64 0)).setCell ⟨w.heap.size + 1, 2, none⟩ (.string ⟨#[]⟩)).setCell ⟨w.heap.size + 1, 3, none⟩ (.slice none 0 0)).setCell ⟨w.heap.size + 1, 4, none⟩ (.slice none 0 0)) = w4 at h4 ⊢
      clear y0 y1 y2 y3 y4 f0 f1 f2 f3 f4
      obtain ⟨y0, y1, y2, y3, y4, _, _, _, _, _, _, _⟩ := h4.2
      exact bodyPost_ret (v := .tuple #[.agg #[.int .i64 0, .int .i64 0, .string ⟨#[]⟩, .slice none 0 0, .slice none 0 0], .bool true]) (by simp [results, Tryd.results40, go_sem, y0, y1, y2, y3, y4]) rfl (by rw [HR.out]; exact ⟨h4.1.1, .inl ⟨hn, _, rfl, tmP_vr' _ _ 0 none 0 none 0, h4.1.2⟩⟩)
  · rw [if_neg hfree, decide_eq_false hfree]
    have HR := Lib.hid (show r = none by rw [← HRR.out]; simp only [renR]; rw [if_neg hfree])
    go_wp2_with fail
    have h4 := Bx.put HB.out HY1.out HK1.out (by omega) (.int .i64 0) (.int .i64 0) (.string ⟨#[]⟩) (.slice none 0 0) (.slice none 0 0)
    generalize (((((w1.setCell ⟨w.heap.size + 1, 0, none⟩ (.int .i64 0)).setCell ⟨w.heap.size + 1, 1, none⟩ (.int .i64 0)).setCell ⟨w.heap.size + 1, 2, none⟩ (.string ⟨#[]⟩)).setCell ⟨w.heap.size + 1, 3, none⟩ (.slice none 0 0)).setCell ⟨w.heap.size + 1, 4, none⟩ (.slice none 0 0)) = w4 at h4 ⊢
    clear y0 y1 y2 y3 y4 f0 f1 f2 f3 f4
    obtain ⟨y0, y1, y2, y3, y4, _, _, _, _, _, _, _⟩ := h4.2
    exact bodyPost_ret (v := .tuple #[.agg #[.int .i64 0, .int .i64 0, .string ⟨#[]⟩, .slice none 0 0, .slice none 0 0], .bool false]) (by simp [results, Tryd.results40, go_sem, y0, y1, y2, y3, y4]) rfl (by rw [HR.out]; exact ⟨rfl, h4.1.1, h4.1.2⟩)
end
theorem enters_rename1 (a : Array Value) (w : World) : (callFunc 40 a).run Tryd.prog w = .ok (.enter 40 a) w := by
  simp [go_sem]
set_option maxRecDepth 100000 in
set_option maxHeartbeats 4000000 in
theorem rename_any (t : Tm) (v : Value) (tos : List Int) (AT : Option Addr) (ct : Nat) (B : Nat) (w : World) (hv : TmV w B t v) (hia : IA w B AT tos) (hB : B ≤ w.heap.size) (hsz : szT t ≤ 1000000) (hq : AllT Qv t 0) :
    Calls Tryd.prog 19 #[v, .slice AT tos.length ct] w (GivesP (errO (cpT (renR tos) t 0)) (resO (cpT (renR tos) t 0)) (fun q => q < B ∨ w.heap.size ≤ q) w) := by
  obtain ⟨k, i, nm, AL, nl, cl, AK, nk, ck, rfl, _⟩ := TmP.open_ (TmP.of t v hv)
  have hmf : ∀ (fn : Fn) (first cap : Array Value) (w : World), (Instr.makeFunc fn first cap).run Tryd.prog w = .ok (.func fn first cap) w := fun _ _ _ _ => rfl
  obtain ⟨W, hW⟩ : ∃ z, z = ((w.alloc (.cells #[.int .i64 k, .int .i64 i, .string nm, .slice AL nl cl, .slice AK nk ck] 25)).alloc (.cells #[.slice AT tos.length ct] 40)).alloc (.cells #[.int .i64 0, .int .i64 0, .string ⟨#[]⟩, .slice none 0 0, .slice none 0 0] 25) := ⟨_, rfl⟩
  have hbW : Below w.heap.size w W := by rw [hW]; exact (((Below.refl _ _).alloc (Nat.le_refl _) _).alloc (by simp) _).alloc (by simp; omega) _
  have hs : W.heap.size = w.heap.size + 1 + 1 + 1 := by rw [hW]; simp
  have b0 : B5 w.heap.size (.int .i64 k) (.int .i64 i) (.string nm) (.slice AL nl cl) (.slice AK nk ck) W := by rw [hW]; exact ((B5.new w (.int .i64 k) (.int .i64 i) (.string nm) (.slice AL nl cl) (.slice AK nk ck)).next ((Below.refl _ _).alloc (Nat.le_refl _) _)).next ((Below.refl _ _).alloc (Nat.le_refl _) _)
  have hpt : W.cell? ⟨w.heap.size + 1, 0, none⟩ = some (.slice AT tos.length ct) := by rw [hW]; go_simp
  have bz : B5 (w.heap.size + 1 + 1) (.int .i64 0) (.int .i64 0) (.string ⟨#[]⟩) (.slice none 0 0) (.slice none 0 0) W := by
    have h := B5.new ((w.alloc (.cells #[.int .i64 k, .int .i64 i, .string nm, .slice AL nl cl, .slice AK nk ck] 25)).alloc (.cells #[.slice AT tos.length ct] 40)) (.int .i64 0) (.int .i64 0) (.string ⟨#[]⟩) (.slice none 0 0) (.slice none 0 0)
    simp only [World.size_alloc] at h
    rw [hW]; exact h
  have hO : ∀ q, (q < B ∨ q = w.heap.size + 1) → q < W.heap.size := fun q h => by omega
  have hiaW := hia.next (hbW.mono hB)
  have hbu := sbuild_any (W := W) (Old := fun q => q < B ∨ q = w.heap.size + 1) hO (Q := Qv) (fn := 40) (cap := #[.pointer (some ⟨w.heap.size + 1, 0, none⟩)]) (R := renR tos) (fun k i nm AL cl ls AK ck ks d n f e w' hq hd ht hi hn => rename1_any (bldS W _ hO) (pt := w.heap.size + 1) (tos := tos) (AT := AT) (ct := ct) (fun {d n f e w''} h => ⟨(World.cell?_of_block (w := W) (a := ⟨w.heap.size + 1, 0, none⟩) (h.2.2.2.2.2 _ (.inr rfl))).trans hpt, fun j p hj => by
    obtain ⟨ab, ao, e', hab, hc⟩ := hiaW.2 (by have := (List.getElem?_eq_some_iff.1 hj).1; omega)
    exact ⟨ab, ao, e', (World.cell?_of_block (w := W) (a := ⟨ab, ao + j, none⟩) (h.2.2.2.2.2 _ (.inl hab))).trans (hc j p hj)⟩⟩) (d := d) hi hn k i nm AL ls.length cl AK ks.length ck ls ks (fun e => hq.here e) hd) enters_rename1 t hsz hq (TmP.mono (fun q h _ => .inl h) _ _ (TmP.of _ _ (hv.below hbW hB)))
  have HBU := Lib.hid hbu
  have HF := Lib.hid (And.intro hbW (And.intro hs bz))
  have HW := Lib.hid hW
  clear hv hia hq hbu hpt hiaW hO
  go_enter Tryd.func19, Tryd.ntmps19
  go_upto_region 1 with fail
  rw [← HW.out]
  clear HW hW hs bz
  obtain ⟨x0, x1, x2, x3, x4, _, _, _, _, _⟩ := b0
  go_wp2_with fail
  refine (show Calls Tryd.prog 29 _ _ _ from HBU.out).mono ?_
  rintro e w9 ⟨hb9, k9, i9, n9, AL9, nl9, cl9, AK9, nk9, ck9, rfl, ht9⟩
  have hs := HF.out.2.1
  have b9 := HF.out.2.2.next hb9
  have hw9 : Below w.heap.size w w9 := HF.out.1.trans (hb9.mono (by omega))
  have h5 := And.intro (b9.put (.int .i64 k9) (.int .i64 i9) (.string n9) (.slice AL9 nl9 cl9) (.slice AK9 nk9 ck9)) (And.intro (below_set5 hw9 (b := w.heap.size + 1 + 1) (by omega) 0 (.int .i64 k9) (.int .i64 i9) (.string n9) (.slice AL9 nl9 cl9) (.slice AK9 nk9 ck9)) (TmP.mono (S' := (fun q => q < B ∨ w.heap.size ≤ q)) (fun q h _ => by omega) _ _ (TmP.keep (fun p hp => set5_far (w := w9) (b := w.heap.size + 1 + 1) (o := 0) (v0 := .int .i64 k9) (v1 := .int .i64 i9) (v2 := .string n9) (v3 := .slice AL9 nl9 cl9) (v4 := .slice AK9 nk9 ck9) (by rintro e; rw [e] at hp; omega)) _ _ ht9)))
  unfold set5 at h5
  simp only [Nat.zero_add] at h5
  have H5 := Lib.hid h5
  obtain ⟨y0, y1, y2, y3, y4, f0, f1, f2, f3, f4⟩ := b9
  clear h5 hw9 hb9 ht9 HBU HF hs hbW x0 x1 x2 x3 x4
  go_wp2_with fail
  generalize (((((w9.setCell ⟨w.heap.size + 1 + 1, 0, none⟩ (.int .i64 k9)).setCell ⟨w.heap.size + 1 + 1, 1, none⟩ (.int .i64 i9)).setCell ⟨w.heap.size + 1 + 1, 2, none⟩ (.string n9)).setCell ⟨w.heap.size + 1 + 1, 3, none⟩ (.slice AL9 nl9 cl9)).setCell ⟨w.heap.size + 1 + 1, 4, none⟩ (.slice AK9 nk9 ck9)) = w12 at H5 ⊢
  obtain ⟨u0, u1, u2, u3, u4, _, _, _, _, _⟩ := H5.out.1
  exact bodyPost_ret (v := .tuple #[.agg #[.int .i64 k9, .int .i64 i9, .string n9, .slice AL9 nl9 cl9, .slice AK9 nk9 ck9], .int .i64 (errO (cpT (renR tos) t 0))]) (by simp [results, Tryd.results19, go_sem, u0, u1, u2, u3, u4]) rfl ⟨H5.out.2.1, _, _, _, _, _, _, _, _, _, rfl, H5.out.2.2⟩
end Go.Proofs.YtobaeeobfcffoaaDoor
