/- What a part that was read can be: plain mathematics. -/
import Derived.Test.YtipnabbdhmapkaaGreatDoorPlv
import Derived.Test.YtipnabbdhmapkaaGreatDoorAsc
import Derived.Lib.AtoiBound
namespace Go.Proofs.YtipnabbdhmapkaaGreatDoor

def PVok (p : PV) : Prop := (p.pre = uS ∨ p.pre = qS ∨ p.pre = ⟨#[]⟩) ∧ 0 ≤ p.num ∧ p.num ≤ 1000000000000000000
theorem numV_range {d : List UInt8} (h : ∀ c ∈ d, isDig c = true) : 0 ≤ numV d ∧ numV d ≤ 1000000000000000000 := by
  by_cases hb : numB d = true
  · have h1 := numV_some hb h
    have h2 := Lib.atoi_bound h1 (by have := numB_len hb; omega)
    obtain ⟨m, hm⟩ := atoi_digs d (by intro e; rw [e] at hb; exact absurd hb (by decide)) h
    rw [h1] at hm
    have := Option.some.inj hm
    omega
  · simp [numV, hb]
theorem preOf_ok (s : ByteArray) (k : Nat) : (preOf s k).1 = uS ∨ (preOf s k).1 = qS ∨ (preOf s k).1 = ⟨#[]⟩ := by
  unfold preOf
  split
  · exact .inl rfl
  · split
    · exact .inr (.inl rfl)
    · exact .inr (.inr rfl)
theorem partOf_ok (s : ByteArray) (k : Nat) : PVok (partOf s k).pv := by
  have h0 := preOf_ok s k
  rcases hp : preOf s k with ⟨P, K⟩
  rw [hp] at h0
  simp only at h0
  have hr := numV_range (d := digs s K) digs_all
  unfold PVok PartR.pv
  cases hn : numB (digs s K) with
  | false => rw [partOf_fail hp hn]; simp
  | true =>
    by_cases hne : P = ⟨#[]⟩
    · subst hne
      rw [partOf_const hp hn]; exact ⟨.inr (.inr rfl), hr⟩
    · cases hs : signB s (digEnd s K) plS with
      | false => rw [partOf_bare hp hne hn hs]; exact ⟨h0, hr⟩
      | true => rw [partOf_plus hp hne hn hs]; exact ⟨h0, hr⟩
theorem listOf_ok (s : ByteArray) (f : Nat) : ∀ (k : Nat) (ps : List PV) (k' : Nat), listOf s f k = some (ps, k') → ∀ p ∈ ps, PVok p := by
  induction f with
  | zero => intro k ps k' h; simp [listOf] at h
  | succ f ih =>
    intro k ps k' h p hp
    unfold listOf at h
    split at h
    · cases h
    · split at h
      · simp only [Option.some.injEq, Prod.mk.injEq] at h
        obtain ⟨rfl, _⟩ := h
        simp at hp; subst hp; exact partOf_ok s k
      · split at h
        · cases h
        · rw [Option.map_eq_some_iff] at h
          obtain ⟨⟨qs, k2⟩, hq, h⟩ := h
          simp only [Prod.mk.injEq] at h
          obtain ⟨rfl, _⟩ := h
          rcases List.mem_cons.1 hp with e | hp
          · subst e; exact partOf_ok s k
          · exact ih _ qs k2 hq p hp
theorem partsOf_ok {s : ByteArray} {k : Nat} {ps : List PV} {k' : Nat} (h : partsOf s k = some (ps, k')) : ∀ p ∈ ps, PVok p := by
  intro p hp
  unfold partsOf at h
  split at h
  · split at h
    · cases h
    · simp only [Option.some.injEq, Prod.mk.injEq] at h
      obtain ⟨rfl, _⟩ := h
      simp at hp; subst hp; exact partOf_ok s _
  · split at h
    · cases h
    · exact listOf_ok s _ _ ps k' h p hp
theorem lvlOf_ok {s : ByteArray} {k : Nat} {ps : List PV} (h : lvlOf s k = some ps) : ∀ p ∈ ps, PVok p := by
  unfold lvlOf at h
  split at h
  · rename_i qs k2 hq
    split at h
    · cases h; exact partsOf_ok hq
    · cases h
  · cases h

/-- The level that the parts make. -/
def accC (ps : List PV) : Int := ps.foldl (fun c p => max c (plC p)) 0
def accM (ps : List PV) : List (Int × Int) := ps.foldl (fun M p => raiseAll M (plV p)) []
/-- The error of the first part that has one. -/
def firstE : List PV → Int
  | [] => 0
  | p :: r => if plE p = 0 then firstE r else plE p
theorem accC_step (ps : List PV) (p : PV) : accC (ps ++ [p]) = max (accC ps) (plC p) := by simp [accC]
theorem accM_step (ps : List PV) (p : PV) : accM (ps ++ [p]) = raiseAll (accM ps) (plV p) := by simp [accM]
theorem asc_accM (ps : List PV) : Asc (accM ps) := by
  unfold accM
  have : ∀ (l : List PV) (M : List (Int × Int)), Asc M → Asc (l.foldl (fun M p => raiseAll M (plV p)) M) := by
    intro l
    induction l with
    | nil => intro M h; exact h
    | cons q r ih => intro M h; exact ih _ (asc_raiseAll h)
  exact this ps [] List.Pairwise.nil
theorem firstE_take {ps : List PV} {k : Nat} {p : PV} (h : ps[k]? = some p) (h0 : ∀ q ∈ ps.take k, plE q = 0) (hp : plE p ≠ 0) : firstE ps = plE p := by
  induction ps generalizing k with
  | nil => simp at h
  | cons q r ih =>
    cases k with
    | zero => simp at h; subst h; simp [firstE, hp]
    | succ k =>
      have hq := h0 q (by simp)
      simp only [firstE, hq, if_true]
      exact ih (by simpa using h) (fun x hx => h0 x (by simp [hx]))
theorem firstE_all {ps : List PV} (h : ∀ q ∈ ps, plE q = 0) : firstE ps = 0 := by
  induction ps with
  | nil => rfl
  | cons q r ih => simp only [firstE, h q (by simp), if_true]; exact ih fun x hx => h x (by simp [hx])
theorem plV_ok (p : PV) : (plV p).length ≤ 1 ∧ ∀ q ∈ plV p, -65536 ≤ q.1 ∧ q.1 ≤ 7 ∧ 0 ≤ q.2 ∧ q.2 ≤ 100 := by
  have hv : ∀ i j, (varV i j).length ≤ 1 ∧ ∀ q ∈ varV i j, -65536 ≤ q.1 ∧ q.1 ≤ 7 ∧ 0 ≤ q.2 ∧ q.2 ≤ 100 := by
    intro i j
    unfold varV
    split
    · rename_i h
      simp [varOk, and_assoc] at h
      refine ⟨by simp, fun q hq => ?_⟩
      simp at hq; subst hq; exact h
    · simp
  unfold plV
  split
  · exact hv _ _
  · split
    · exact hv _ _
    · simp
theorem mem_raiseL {M : List (Int × Int)} {i p : Int} {q : Int × Int} (h : q ∈ raiseL M i p) : q.1 = i ∨ q ∈ M := by
  unfold raiseL putL at h
  rcases mem_insL.1 h with e | h
  · left; rw [e]
  · right; exact (List.mem_filter.1 h).1
theorem keys_accM (ps : List PV) : ∀ q ∈ accM ps, -65536 ≤ q.1 ∧ q.1 ≤ 7 := by
  have hA : ∀ (vs M : List (Int × Int)), (∀ q ∈ M, -65536 ≤ q.1 ∧ q.1 ≤ 7) → (∀ q ∈ vs, -65536 ≤ q.1 ∧ q.1 ≤ 7) → ∀ q ∈ raiseAll M vs, -65536 ≤ q.1 ∧ q.1 ≤ 7 := by
    intro vs
    induction vs with
    | nil => intro M h _; exact h
    | cons v r ih =>
      intro M h hv
      refine ih _ (fun q hq => ?_) (fun q hq => hv q (by simp [hq]))
      rcases mem_raiseL hq with e | hq
      · rw [e]; exact hv v (by simp)
      · exact h q hq
  unfold accM
  have : ∀ (l : List PV) (M : List (Int × Int)), (∀ q ∈ M, -65536 ≤ q.1 ∧ q.1 ≤ 7) → ∀ q ∈ l.foldl (fun M p => raiseAll M (plV p)) M, -65536 ≤ q.1 ∧ q.1 ≤ 7 := by
    intro l
    induction l with
    | nil => intro M h; exact h
    | cons p r ih => intro M h; exact ih _ (hA _ _ h fun q hq => by have := (plV_ok p).2 q hq; exact ⟨this.1, this.2.1⟩)
  exact this ps [] (by simp)
theorem length_raiseL (M : List (Int × Int)) (i p : Int) : (raiseL M i p).length ≤ M.length + 1 := by
  have h : ∀ (x : Int × Int) (l : List (Int × Int)), (insL x l).length = l.length + 1 := by
    intro x l
    induction l with
    | nil => rfl
    | cons y r ih => unfold insL; split <;> simp [ih]
  unfold raiseL putL
  rw [h]
  have := List.length_filter_le (fun q : Int × Int => !(q.1 == i)) M
  omega
theorem length_accM (ps : List PV) : (accM ps).length ≤ ps.length := by
  have hA : ∀ (vs M : List (Int × Int)), (raiseAll M vs).length ≤ M.length + vs.length := by
    intro vs
    induction vs with
    | nil => intro M; exact Nat.le_refl _
    | cons v r ih =>
      intro M
      have h1 := ih (raiseL M v.1 v.2)
      have h2 := length_raiseL M v.1 v.2
      simp only [raiseAll, List.foldl_cons, List.length_cons] at h1 ⊢
      omega
  have : ∀ (l : List PV) (M : List (Int × Int)), (l.foldl (fun M p => raiseAll M (plV p)) M).length ≤ M.length + l.length := by
    intro l
    induction l with
    | nil => intro M; exact Nat.le_refl _
    | cons p r ih =>
      intro M
      have h1 := ih (raiseAll M (plV p))
      have h2 := hA (plV p) M
      have h3 := (plV_ok p).1
      simp only [List.foldl_cons, List.length_cons]
      omega
  have h := this ps []
  simpa [accM] using h
end Go.Proofs.YtipnabbdhmapkaaGreatDoor
