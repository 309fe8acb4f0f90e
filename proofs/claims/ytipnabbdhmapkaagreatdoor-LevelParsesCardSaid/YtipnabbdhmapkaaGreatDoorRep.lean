/- Replacing variables by levels: plain mathematics. -/
import Derived.Test.YtipnabbdhmapkaaGreatDoorPok
import Derived.Test.YtipnabbdhmapkaaGreatDoorUnq
import Derived.Test.YtipnabbdhmapkaaGreatDoorFew
import Derived.Test.YtipnabbdhmapkaaGreatDoorPrs
import Derived.Test.YtipnabbdhmapkaaGreatDoorPrm
namespace Go.Proofs.YtipnabbdhmapkaaGreatDoor
open Go.RowKit

/-! Replacing variables by levels: plain mathematics. -/

/-- A level as it lies in memory, with its variables. -/
structure LvD where
  c : Int
  A : Option Addr
  cap : Nat
  vs : List (Int × Int)
def LvD.ok (l : LvD) : Bool := vldB l.c l.vs
/-- What the collector holds behind all variables, and the error. -/
def repR (val : Int → Option LvD) : List (Int × Int) → Int → List (Int × Int) → (Int × List (Int × Int)) × Int
  | [], C, M => ((C, M), 0)
  | p :: r, C, M => match val p.1 with
    | none => repR val r C (raiseL M p.1 p.2)
    | some l => if plusE l.c l.vs p.2 = 0 then repR val r (max C (plusC l.c l.vs p.2)) (raiseAll M (plusV l.c l.vs p.2)) else ((0, []), plusE l.c l.vs p.2)
/-- The level out of the collector. -/
def finR (R : (Int × List (Int × Int)) × Int) : (Int × List (Int × Int)) × Int := ((canonC R.1.1 R.1.2, R.1.2), R.2)
def mxI (a b : Int) : Int := if a < b then b else a
/-- What the reference joins. -/
def rrepR (val : Int → Option LvD) : List (Int × Int) → Int → List (Int × Int) → (Int × List (Int × Int)) × Int
  | [], o, M => ((o, M), 0)
  | p :: r, o, M => match val p.1 with
    | none => rrepR val r (canonC (mxI o 0) (mg M [p])) (mg M [p])
    | some l => if plusE l.c l.vs p.2 = 0 then rrepR val r (canonC (mxI o (plusC l.c l.vs p.2)) (mg M (plusV l.c l.vs p.2))) (mg M (plusV l.c l.vs p.2)) else ((0, []), plusE l.c l.vs p.2)

theorem mg_cons1 (M : List (Int × Int)) (v : Int × Int) (t : List (Int × Int)) (hv : ∀ q ∈ t, v.1 < q.1) : mg (mg M [v]) t = mg M (v :: t) := by
  induction M with
  | nil =>
    rw [mg_nil, mg_nil]
    cases t with
    | nil => rw [mg_nil_right]
    | cons b bs => rw [mg_cons, if_pos (hv b (by simp)), mg_nil]
  | cons p r ih =>
    rw [mg_cons p v r [], mg_cons p v r t]
    by_cases h1 : p.1 < v.1
    · rw [if_pos h1, if_pos h1]
      cases t with
      | nil => rw [mg_nil_right]
      | cons b bs =>
        rw [mg_cons, if_pos (by have := hv b (by simp); omega), ih]
    · rw [if_neg h1, if_neg h1]
      by_cases h2 : v.1 < p.1
      · rw [if_pos h2, if_pos h2, mg_nil_right]
        cases t with
        | nil => rw [mg_nil_right, mg_nil_right]
        | cons b bs => rw [mg_cons, if_pos (hv b (by simp))]
      · rw [if_neg h2, if_neg h2, mg_nil_right]
        cases t with
        | nil => rw [mg_nil_right, mg_nil_right]
        | cons b bs => rw [mg_cons, if_pos (by have := hv b (by simp); show p.1 < b.1; omega)]
theorem insL_head {x : Int × Int} {M : List (Int × Int)} (h : ∀ q ∈ M, x.1 < q.1) : insL x M = x :: M := by
  cases M with
  | nil => rfl
  | cons y r => rw [insL, if_pos (h y (by simp))]
theorem filter_none {M : List (Int × Int)} {i : Int} (h : ∀ q ∈ M, q.1 ≠ i) : M.filter (fun q => !(q.1 == i)) = M := by
  rw [List.filter_eq_self]
  intro q hq
  have : (q.1 == i) = false := by rw [beq_eq_false_iff_ne]; exact h q hq
  rw [this]
  rfl
theorem offAt_none {M : List (Int × Int)} {i : Int} (h : ∀ q ∈ M, q.1 ≠ i) : offAt M i = 0 := by
  unfold offAt
  rw [List.find?_eq_none.2]
  · rfl
  · intro q hq
    simpa using h q hq
theorem raiseL_mg {M : List (Int × Int)} (hM : Asc M) (v : Int × Int) (h0 : 0 ≤ v.2) : raiseL M v.1 v.2 = mg M [v] := by
  induction M with
  | nil =>
    rw [mg_nil]
    unfold raiseL putL
    rw [offAt_none (by simp)]
    simp only [List.filter_nil, insL]
    rw [show max 0 v.2 = v.2 by omega]
  | cons p r ih =>
    have hM' := List.pairwise_cons.1 hM
    rw [mg_cons]
    by_cases h1 : p.1 < v.1
    · rw [if_pos h1, ← ih hM'.2]
      have e1 : (p.1 == v.1) = false := by rw [beq_eq_false_iff_ne]; omega
      unfold raiseL putL
      have e2 : offAt (p :: r) v.1 = offAt r v.1 := by unfold offAt; rw [List.find?_cons, e1]
      rw [e2, List.filter_cons, if_pos (by rw [e1]; rfl), insL, if_neg (by show ¬ v.1 < p.1; omega)]
    · rw [if_neg h1]
      by_cases h2 : v.1 < p.1
      · rw [if_pos h2, mg_nil_right]
        have hne : ∀ q ∈ p :: r, q.1 ≠ v.1 := by
          intro q hq
          rcases List.mem_cons.1 hq with rfl | hq
          · omega
          · have := hM'.1 q hq; omega
        unfold raiseL putL
        rw [offAt_none hne, filter_none hne, show max 0 v.2 = v.2 by omega, insL, if_pos (by exact h2)]
      · have e : p.1 = v.1 := by omega
        rw [if_neg h2, mg_nil_right]
        have hne : ∀ q ∈ r, q.1 ≠ v.1 := by
          intro q hq
          have := hM'.1 q hq; omega
        have e1 : (p.1 == v.1) = true := by rw [e]; simp
        have e2 : offAt (p :: r) v.1 = p.2 := by unfold offAt; rw [List.find?_cons, e1]; rfl
        unfold raiseL putL
        rw [e2, List.filter_cons, if_neg (by rw [e1]; decide), filter_none hne, insL_head (fun q hq => by have := hM'.1 q hq; show v.1 < q.1; omega), e]
        congr 2
        split <;> omega
theorem raiseAll_mg : ∀ (vs M : List (Int × Int)), Asc M → Asc vs → (∀ p ∈ vs, 0 ≤ p.2) → raiseAll M vs = mg M vs := by
  intro vs
  induction vs with
  | nil => intro M _ _ _; rw [mg_nil_right]; rfl
  | cons v t ih =>
    intro M hM hv h0
    have hv' := List.pairwise_cons.1 hv
    have e : raiseAll M (v :: t) = raiseAll (raiseL M v.1 v.2) t := rfl
    rw [e, raiseL_mg hM v (h0 v (by simp)), ih _ (mg_pw _ _ hM (List.pairwise_singleton _ _)) hv'.2 (fun p hp => h0 p (by simp [hp])), mg_cons1 M v t hv'.1]
theorem canon_step {C pc : Int} {M pv : List (Int × Int)} (h0 : 0 ≤ pc) : canonC (mxI (canonC C M) pc) (mg M pv) = canonC (max C pc) (mg M pv) := by
  rcases canon_cases (m := C) M with ⟨h1, p, hp, h2⟩ | ⟨h1, _⟩
  · rw [h1]
    obtain ⟨q, hq, _, h3⟩ := mg_up1 M pv p hp
    by_cases h4 : C ≤ pc
    · have e1 : mxI 0 pc = pc := by unfold mxI; split <;> omega
      rw [e1, show max C pc = pc by omega]
    · have e1 : mxI 0 pc = pc := by unfold mxI; split <;> omega
      rw [e1, show max C pc = C by omega]
      have z : ∀ m : Int, m ≤ q.2 → canonC m (mg M pv) = 0 := fun m hm => by
        unfold canonC
        rw [if_pos]
        exact List.any_eq_true.2 ⟨q, hq, by simpa using hm⟩
      rw [z pc (by omega), z C (by omega)]
  · rw [h1]
    congr 1
    unfold mxI
    split <;> omega
/-- The parts of a sum. -/
theorem plus_parts {c : Int} {vs : List (Int × Int)} (n : Int) : 0 ≤ plusC c vs n ∧ Asc (plusV c vs n) ∧ (∀ p ∈ plusV c vs n, (-65536 ≤ p.1 ∧ p.1 ≤ 7) ∧ 0 ≤ p.2 ∧ p.2 ≤ 100) ∧ (plusV c vs n).length ≤ vs.length := by
  cases h : plusOk c vs n with
  | false => simp [plusC, plusV, h, Asc]
  | true =>
    have h' := h
    simp only [plusOk, Bool.and_eq_true, decide_eq_true_eq] at h'
    have hin := vld_in h'.1
    have hc := (vldB_parts h'.1).1
    simp only [plusC, plusV, h, if_true]
    refine ⟨?_, ?_, ?_, by simp [plusVs]⟩
    · rcases canon_cases (m := c + n) (plusVs n vs) with ⟨e, _⟩ | ⟨e, _⟩
      · rw [e]; exact Int.le_refl _
      · rw [e]; omega
    · unfold Asc plusVs
      rw [List.pairwise_map]
      exact (vld_pw h'.1).imp fun hlt => by simpa using hlt
    · intro p hp
      unfold plusVs at hp
      obtain ⟨q, hq, rfl⟩ := List.mem_map.1 hp
      obtain ⟨j, hj⟩ := List.getElem?_of_mem hq
      have := (leastI_ge c vs).2 j q.1 q.2 hj
      have := hin q hq
      show (-65536 ≤ q.1 ∧ q.1 ≤ 7) ∧ 0 ≤ q.2 + n ∧ q.2 + n ≤ 100
      omega
/-- The collector and the joins come to the same. -/
theorem rep_eq (val : Int → Option LvD) : ∀ (vs : List (Int × Int)) (C : Int) (M : List (Int × Int)), Asc M → (∀ p ∈ vs, 0 ≤ p.2) → finR (repR val vs C M) = rrepR val vs (canonC C M) M := by
  intro vs
  induction vs with
  | nil => intro C M _ _; rfl
  | cons p r ih =>
    intro C M hM h0
    have hr : ∀ q ∈ r, 0 ≤ q.2 := fun q hq => h0 q (by simp [hq])
    have hp := h0 p (by simp)
    unfold repR rrepR
    cases hv : val p.1 with
    | none =>
      simp only
      rw [raiseL_mg hM p hp, ih _ _ (mg_pw _ _ hM (List.pairwise_singleton _ _)) hr, canon_step (pv := [p]) (Int.le_refl 0)]
      congr 1
      -- the constant stays
      by_cases hC : 0 ≤ C
      · rw [show max C 0 = C by omega]
      · rw [show max C 0 = 0 by omega]
        unfold canonC
        have h1 : covB 0 (mg M [p]) = true := by
          obtain ⟨q, hq, _, h2⟩ := mg_up2 M [p] p (by simp)
          exact List.any_eq_true.2 ⟨q, hq, by simpa using Int.le_trans hp h2⟩
        have h2 : covB C (mg M [p]) = true := by
          obtain ⟨q, hq, _, h2⟩ := mg_up2 M [p] p (by simp)
          exact List.any_eq_true.2 ⟨q, hq, by simp; omega⟩
        rw [h1, h2]
        rfl
    | some l =>
      simp only
      have hpp := plus_parts (c := l.c) (vs := l.vs) p.2
      by_cases he : plusE l.c l.vs p.2 = 0
      · rw [if_pos he, if_pos he, raiseAll_mg _ _ hM hpp.2.1 (fun q hq => (hpp.2.2.1 q hq).2.1), ih _ _ (mg_pw _ _ hM hpp.2.1) hr, canon_step hpp.1]
      · rw [if_neg he, if_neg he]
        rfl
/-- What holds of the collector's map. -/
structure MOk (M : List (Int × Int)) (n : Nat) : Prop where
  asc : Asc M
  keys : ∀ q ∈ M, -65536 ≤ q.1 ∧ q.1 ≤ 7
  len : M.length ≤ n
theorem MOk.nil : MOk [] 0 := ⟨List.Pairwise.nil, by simp, by simp⟩
theorem MOk.raise {M : List (Int × Int)} {n : Nat} (h : MOk M n) {x y : Int} (hx : -65536 ≤ x ∧ x ≤ 7) : MOk (raiseL M x y) (n + 1) :=
  ⟨asc_raiseL h.asc _ _, fun q hq => by
    rcases mem_raiseL hq with e | hq
    · rw [e]; exact hx
    · exact h.keys q hq, by have := length_raiseL M x y; have := h.len; omega⟩
theorem MOk.raiseAll {vs : List (Int × Int)} : ∀ {M : List (Int × Int)} {n : Nat}, MOk M n → (∀ p ∈ vs, -65536 ≤ p.1 ∧ p.1 ≤ 7) → MOk (raiseAll M vs) (n + vs.length) := by
  induction vs with
  | nil => intro M n h _; exact h
  | cons v t ih =>
    intro M n h hv
    have := ih (h.raise (y := v.2) (hv v (by simp))) (fun p hp => hv p (by simp [hp]))
    rw [show n + (v :: t).length = n + 1 + t.length by simp; omega]
    exact this

/-! Subst and Assign: the levels in memory, the closures, allValid. -/

def LvD.hd (l : LvD) : LH := (l.c, l.A, l.vs.length, l.cap)
/-- The slice of levels at address A reads, in w, as ls, with all their variables. -/
def LL (w : World) (B : Nat) (A : Option Addr) (ls : List LvD) : Prop := LA w B A (ls.map LvD.hd) ∧ ∀ l ∈ ls, VA w B l.A l.vs
section
variable {w w' : World} {B B' : Nat} {A : Option Addr} {ls : List LvD}
theorem LL.below (h : LL w B A ls) (hb : Below B' w w') (hB : B ≤ B') : LL w' B A ls := ⟨h.1.below hb hB, fun l hl => (h.2 l hl).below hb hB⟩
theorem LL.more (h : LL w B A ls) (hB : B ≤ B') : LL w B' A ls := ⟨⟨h.1.1, fun hn => by
  obtain ⟨b, off, e, hb, hc⟩ := h.1.2 hn
  exact ⟨b, off, e, by omega, hc⟩⟩, fun l hl => (h.2 l hl).more hB⟩
theorem LL.next0 (h : LL w w.heap.size A ls) (hb : Below w.heap.size w w') : LL w' w'.heap.size A ls := (h.below hb (Nat.le_refl _)).more hb.size
theorem LL.len (h : LL w B A ls) : ls.length ≤ 4398046511104 := by have := h.1.len; simpa using this
theorem LL.at_ (h : LL w B A ls) {k : Nat} {l : LvD} (hk : ls[k]? = some l) : ∃ b off, A = some ⟨b, off, none⟩ ∧ b < B ∧
    w.cell? ⟨b, off + k * 2, none⟩ = some (.int .i64 l.c) ∧ w.cell? ⟨b, off + k * 2 + 1, none⟩ = some (.slice l.A l.vs.length l.cap) := by
  obtain ⟨hkl, _⟩ := List.getElem?_eq_some_iff.1 hk
  obtain ⟨b, off, e, hb, hc⟩ := h.1.2 (by simp; omega)
  exact ⟨b, off, e, hb, hc k _ _ _ _ (by rw [List.getElem?_map, hk]; rfl)⟩
end

/-- What a closure returns: a level and true, or no level and false. -/
def ValPost (r : Option LvD) (w : World) (e : Ending) (w' : World) : Prop :=
  (e = match r with
    | none => .returned (.tuple #[.agg #[.int .i64 0, .slice none 0 0], .bool false])
    | some l => .returned (.tuple #[.agg #[.int .i64 l.c, .slice l.A l.vs.length l.cap], .bool true])) ∧ Below w.heap.size w w'
def valS (ls : List LvD) (x : Int) : Option LvD := if x < 0 then none else ls[x.toNat]?
def valA (ls : List LvD) (x : Int) : Option LvD := if 0 ≤ x then none else ls[(-1 - x).toNat]?

theorem cell_lt {w : World} {b : Nat} {o : Nat} {v : Value} (h : w.cell? ⟨b, o, none⟩ = some v) : b < w.heap.size := by
  rcases Nat.lt_or_ge b w.heap.size with h1 | h1
  · exact h1
  · simp [World.cell?, Array.getElem?_eq_none h1] at h

set_option maxRecDepth 100000 in
set_option maxHeartbeats 1000000 in
theorem subst1_any (x : Int) (K : Nat) (P : Option Addr) (capp : Nat) (ls : List LvD) (B : Nat) (w : World) (hK : w.cell? ⟨K, 0, none⟩ = some (.slice P ls.length capp)) (hl : LL w B P ls) (hB : B ≤ w.heap.size) (hx : x < ls.length) :
    Calls Tryz.prog 60 #[.int .i64 x, .pointer (some ⟨K, 0, none⟩)] w (ValPost (valS ls x) w) := by
  have hlt := cell_lt hK
  have hlen := hl.len
  by_cases h0 : x < 0
  · have HV := Lib.hid (show valS ls x = none by simp [valS, h0])
    go_enter Tryz.func60, Tryz.ntmps60
    go_wp2_with fail
    rw [HV.out]
    exact bodyPost_ret (v := .tuple #[.agg #[.int .i64 0, .slice none 0 0], .bool false]) (by simp [results, Tryz.results60, go_sem]) rfl ⟨rfl, (Below.refl _ _).alloc (Nat.le_refl _) _⟩
  · obtain ⟨k, rfl⟩ : ∃ k : Nat, x = (k : Int) := ⟨x.toNat, by omega⟩
    have hkl : k < ls.length := by omega
    obtain ⟨l, hk⟩ : ∃ l, ls[k]? = some l := ⟨_, List.getElem?_eq_getElem hkl⟩
    have HV := Lib.hid (show valS ls (k : Int) = some l by simp only [valS]; rw [if_neg (by omega)]; simpa using hk)
    obtain ⟨b, off, rfl, hb, hc0, hc1⟩ := hl.at_ hk
    have hbl : b < w.heap.size := by omega
    clear hk h0
    go_enter Tryz.func60, Tryz.ntmps60
    go_wp2_with fail
    rw [HV.out]
    refine bodyPost_ret (v := .tuple #[.agg #[.int .i64 l.c, .slice l.A l.vs.length l.cap], .bool true]) (by simp [results, Tryz.results60, go_sem]) rfl ⟨rfl, ?_⟩
    exact (Below.refl _ _).alloc (Nat.le_refl _) _

set_option maxRecDepth 100000 in
set_option maxHeartbeats 1000000 in
theorem assign1_any (x : Int) (K : Nat) (P : Option Addr) (capp : Nat) (ls : List LvD) (B : Nat) (w : World) (hK : w.cell? ⟨K, 0, none⟩ = some (.slice P ls.length capp)) (hl : LL w B P ls) (hB : B ≤ w.heap.size) (hx : -65536 ≤ x) :
    Calls Tryz.prog 63 #[.int .i64 x, .pointer (some ⟨K, 0, none⟩)] w (ValPost (valA ls x) w) := by
  have hlt := cell_lt hK
  have hlen := hl.len
  by_cases h0 : 0 ≤ x
  · have HV := Lib.hid (show valA ls x = none by simp [valA, h0])
    go_enter Tryz.func63, Tryz.ntmps63
    go_wp2_with fail
    rw [HV.out]
    exact bodyPost_ret (v := .tuple #[.agg #[.int .i64 0, .slice none 0 0], .bool false]) (by simp [results, Tryz.results63, go_sem]) rfl ⟨rfl, (Below.refl _ _).alloc (Nat.le_refl _) _⟩
  · obtain ⟨k, hxk⟩ : ∃ k : Nat, -1 - x = (k : Int) := ⟨(-1 - x).toNat, by omega⟩
    have h00 : decide (0 ≤ x) = false := by simpa using h0
    by_cases hkl : k < ls.length
    · obtain ⟨l, hk⟩ : ∃ l, ls[k]? = some l := ⟨_, List.getElem?_eq_getElem hkl⟩
      have HV := Lib.hid (show valA ls x = some l by simp only [valA]; rw [if_neg h0, hxk]; simpa using hk)
      obtain ⟨b, off, rfl, hb, hc0, hc1⟩ := hl.at_ hk
      have hbl : b < w.heap.size := by omega
      have hd : decide ((ls.length : Int) ≤ -1 - x) = false := by rw [decide_eq_false_iff_not]; omega
      obtain rfl : x = -1 - (k : Int) := by omega
      have e1 : (-1 - (-1 - (k : Int))) = (k : Int) := by omega
      rw [e1] at hd
      clear hk h0 hxk
      go_enter Tryz.func63, Tryz.ntmps63
      go_wp2_with fail
      rw [HV.out]
      refine bodyPost_ret (v := .tuple #[.agg #[.int .i64 l.c, .slice l.A l.vs.length l.cap], .bool true]) (by simp [results, Tryz.results63, go_sem]) rfl ⟨rfl, ?_⟩
      exact (Below.refl _ _).alloc (Nat.le_refl _) _
    · have HV := Lib.hid (show valA ls x = none by simp only [valA]; rw [if_neg h0, hxk]; simp; omega)
      have hd : ls.length ≤ k := by omega
      obtain rfl : x = -1 - (k : Int) := by omega
      have e1 : (-1 - (-1 - (k : Int))) = (k : Int) := by omega
      clear h0 hxk hkl
      go_enter Tryz.func63, Tryz.ntmps63
      go_wp2_with fail
      rw [HV.out]
      exact bodyPost_ret (v := .tuple #[.agg #[.int .i64 0, .slice none 0 0], .bool false]) (by simp [results, Tryz.results63, go_sem]) rfl ⟨rfl, (Below.refl _ _).alloc (Nat.le_refl _) _⟩
end Go.Proofs.YtipnabbdhmapkaaGreatDoor
