/- Parse reads back what Text writes: plain mathematics on lists of bytes. -/
import Derived.Test.YtipnabbdhmapkaaGreatDoorPrs
import Derived.Test.YtipnabbdhmapkaaGreatDoorTxu
import Derived.Test.YtipnabbdhmapkaaGreatDoorUnq
namespace Go.Proofs.YtipnabbdhmapkaaGreatDoor

theorem dd_pos (u : Nat) : 0 < (Lib.decDigits u).length := by
  rw [Lib.decDigits]
  split <;> simp
theorem dd_head (u : Nat) (h : u ≠ 0) : (Lib.decDigits u).head? ≠ some 48 := by
  induction u using Nat.strongRecOn with
  | ind u ih =>
    rw [Lib.decDigits]
    split
    · rename_i h1
      intro e
      simp only [List.head?_cons, Option.some.injEq] at e
      have := congrArg UInt8.toNat e
      simp only [UInt8.toNat_ofNat'] at this
      simp at this
      omega
    · rename_i h1
      have h2 := ih (u / 10) (by omega) (by omega)
      have h3 := dd_pos (u / 10)
      cases hd : Lib.decDigits (u / 10) with
      | nil => rw [hd] at h3; simp at h3
      | cons a r =>
        rw [hd] at h2
        simpa using h2
theorem dig_ofNat {d : Nat} (h : d < 10) : isDig (UInt8.ofNat (48 + d)) = true ∧ Lib.digitVal (UInt8.ofNat (48 + d)) = some d := by
  have e : (UInt8.ofNat (48 + d)).toNat = 48 + d := by
    rw [UInt8.toNat_ofNat']
    omega
  constructor
  · simp only [isDig, e, Bool.and_eq_true, decide_eq_true_eq]; omega
  · unfold Lib.digitVal
    rw [e, if_pos (by omega)]
    congr 1
    omega
theorem dd_all (u : Nat) : ∀ c ∈ Lib.decDigits u, isDig c = true := by
  induction u using Nat.strongRecOn with
  | ind u ih =>
    rw [Lib.decDigits]
    split
    · intro c hc
      simp only [List.mem_singleton] at hc
      subst hc
      exact (dig_ofNat (by assumption)).1
    · intro c hc
      rcases List.mem_append.1 hc with h | h
      · exact ih _ (by omega) c h
      · simp only [List.mem_singleton] at h
        subst h
        exact (dig_ofNat (Nat.mod_lt _ (by omega))).1
theorem decFrom_append (a : List UInt8) : ∀ (acc : Nat) (b : List UInt8) (m : Nat), Lib.decFrom acc a = some m → Lib.decFrom acc (a ++ b) = Lib.decFrom m b := by
  induction a with
  | nil => intro acc b m h; simp [Lib.decFrom] at h; subst h; rfl
  | cons c r ih =>
    intro acc b m h
    simp only [Lib.decFrom, List.cons_append] at h ⊢
    cases hv : Lib.digitVal c with
    | none => rw [hv] at h; cases h
    | some d => rw [hv] at h; exact ih _ _ _ h
theorem dd_val (u : Nat) : Lib.decFrom 0 (Lib.decDigits u) = some u := by
  induction u using Nat.strongRecOn with
  | ind u ih =>
    rw [Lib.decDigits]
    split
    · rename_i h
      simp only [Lib.decFrom, (dig_ofNat h).2]
      simp
    · rename_i h
      rw [decFrom_append _ _ _ _ (ih (u / 10) (by omega))]
      simp only [Lib.decFrom, (dig_ofNat (Nat.mod_lt u (show 0 < 10 by omega))).2]
      congr 1
      omega
theorem dd_len (u : Nat) (h : u ≤ 999999) : (Lib.decDigits u).length ≤ 6 := by
  rcases Nat.lt_or_ge u 10 with h1 | h1
  · rw [Lib.decDigits, dif_pos h1]; simp
  · have key : ∀ (k u : Nat), u < 10 ^ (k + 1) → (Lib.decDigits u).length ≤ k + 1 := by
      intro k
      induction k with
      | zero => intro u hu; rw [Lib.decDigits, dif_pos (by omega)]; simp
      | succ k ih =>
        intro u hu
        rw [Lib.decDigits]
        split
        · simp
        · have := ih (u / 10) (by rw [Nat.div_lt_iff_lt_mul (by omega), ← Nat.pow_succ]; exact hu)
          simp only [List.length_append, List.length_singleton]
          omega
    exact key 5 u (by omega)
theorem dd_atoi (u : Nat) : Lib.atoi (Lib.decDigits u) = some (u : Int) := by
  have h1 := dd_pos u
  have h2 := dd_all u
  have h3 := dd_val u
  cases hd : Lib.decDigits u with
  | nil => rw [hd] at h1; simp at h1
  | cons c r =>
    rw [hd] at h2 h3
    have hc := h2 c (by simp)
    simp only [isDig, Bool.and_eq_true, decide_eq_true_eq] at hc
    have e45 : (c == 45) = false := by
      rw [beq_eq_false_iff_ne]; intro e; subst e; revert hc; decide
    have e43 : (c == 43) = false := by
      rw [beq_eq_false_iff_ne]; intro e; subst e; revert hc; decide
    simp [Lib.atoi, e45, e43, Lib.decNat, h3]
/-- From place k on the text s reads r. -/
def At (s : ByteArray) (k : Nat) (r : List UInt8) : Prop := k ≤ s.size ∧ s.data.toList.drop k = r
theorem At.next {s : ByteArray} {k : Nat} {a r : List UInt8} (h : At s k (a ++ r)) {n : Nat} (hn : a.length = n) : At s (k + n) r := by
  subst hn
  constructor
  · have h1 := congrArg List.length h.2
    have h2 : s.data.toList.length = s.size := by simp
    have h3 := h.1
    simp only [List.length_drop, List.length_append, h2] at h1
    omega
  · rw [← List.drop_drop, h.2, List.drop_left]
theorem At.end_ {s : ByteArray} {k : Nat} (h : At s k []) : k = s.size := by
  have h1 := congrArg List.length h.2
  have h2 : s.data.toList.length = s.size := by simp
  have h3 := h.1
  simp only [List.length_drop, h2, List.length_nil] at h1
  omega
theorem At.whole (s : ByteArray) : At s 0 s.data.toList := ⟨Nat.zero_le _, rfl⟩
/-- The first byte, if there is one, is none of these. -/
def Hd (r : List UInt8) (p : UInt8 → Bool) : Prop := ∀ c, r.head? = some c → p c = true
theorem takeWhile_hd {r : List UInt8} {p : UInt8 → Bool} (h : Hd r fun c => !p c) : r.takeWhile p = [] := by
  cases r with
  | nil => rfl
  | cons c t =>
    have := h c rfl
    rw [List.takeWhile_cons]
    simp only [Bool.not_eq_true'] at this
    rw [this]
    rfl
theorem At.sp0 {s : ByteArray} {k : Nat} {r : List UInt8} (h : At s k r) (hr : Hd r fun c => !(c == 32)) : spEnd s k = k := by
  unfold spEnd
  rw [h.2, takeWhile_hd hr]
  rfl
theorem At.sp1 {s : ByteArray} {k : Nat} {r : List UInt8} (h : At s k (32 :: r)) (hr : Hd r fun c => !(c == 32)) : spEnd s k = k + 1 := by
  unfold spEnd
  rw [h.2, List.takeWhile_cons, if_pos (by decide), takeWhile_hd hr]
  rfl
/-- No space, or one. -/
def Sp (sp : List UInt8) : Prop := sp = [] ∨ sp = [32]
theorem At.sp {s : ByteArray} {k : Nat} {sp r : List UInt8} (h : At s k (sp ++ r)) (hsp : Sp sp) (hr : Hd r fun c => !(c == 32)) : spEnd s k = k + sp.length ∧ At s (k + sp.length) r := by
  refine ⟨?_, h.next rfl⟩
  rcases hsp with rfl | rfl
  · exact h.sp0 hr
  · exact h.sp1 hr
theorem prefix_yes (p r : List UInt8) : Lib.hasPrefix (p ++ r) p = true := by
  unfold Lib.hasPrefix
  rw [List.isPrefixOf_iff_prefix]
  exact List.prefix_append p r
theorem prefix_no {c : UInt8} {p r : List UInt8} (hr : Hd r fun x => !(x == c)) : Lib.hasPrefix r (c :: p) = false := by
  unfold Lib.hasPrefix
  cases r with
  | nil => rfl
  | cons x t =>
    have h := hr x rfl
    simp only [List.isPrefixOf, Bool.and_eq_false_iff]
    left
    rw [beq_eq_false_iff_ne]
    intro e
    subst e
    simp at h
theorem At.sign_yes {s : ByteArray} {k : Nat} {sp r : List UInt8} (p : ByteArray) (h : At s k (sp ++ (p.data.toList ++ r))) (hsp : Sp sp) (hr : Hd (p.data.toList ++ r) fun c => !(c == 32)) :
    signB s k p = true ∧ signEnd s k p = k + sp.length + p.size ∧ At s (k + sp.length + p.size) r := by
  obtain ⟨h1, h2⟩ := h.sp hsp hr
  have h3 : signB s k p = true := by
    unfold signB
    rw [h1, h2.2, prefix_yes]
  refine ⟨h3, by unfold signEnd; rw [if_pos h3, h1], h2.next (by simp)⟩
theorem At.sign_no {s : ByteArray} {k : Nat} {sp r : List UInt8} {c : UInt8} {p : List UInt8} (h : At s k (sp ++ r)) (hsp : Sp sp) (hr : Hd r fun c => !(c == 32)) (hc : Hd r fun x => !(x == c)) :
    signB s k ⟨(c :: p).toArray⟩ = false ∧ signEnd s k ⟨(c :: p).toArray⟩ = k + sp.length ∧ At s (k + sp.length) r := by
  obtain ⟨h1, h2⟩ := h.sp hsp hr
  have h3 : signB s k ⟨(c :: p).toArray⟩ = false := by
    unfold signB
    rw [h1, h2.2]
    exact prefix_no hc
  refine ⟨h3, by unfold signEnd; rw [h3, h1]; rfl, h2⟩
theorem At.dig {s : ByteArray} {k : Nat} {d r : List UInt8} (h : At s k (d ++ r)) (hd : ∀ c ∈ d, isDig c = true) (hr : Hd r fun c => !isDig c) : digs s k = d ∧ digEnd s k = k + d.length ∧ At s (k + d.length) r := by
  have h1 : digs s k = d := by
    unfold digs
    rw [h.2, List.takeWhile_append_of_pos hd, takeWhile_hd hr, List.append_nil]
  exact ⟨h1, by unfold digEnd; rw [h1], h.next rfl⟩
theorem num_dd (u : Nat) (h : u ≤ 999999) : numB (Lib.decDigits u) = true ∧ numV (Lib.decDigits u) = u := by
  have h1 : numB (Lib.decDigits u) = true := by
    have hp := dd_pos u
    have hl := dd_len u h
    have e1 : (Lib.decDigits u).isEmpty = false := by
      cases hd : Lib.decDigits u with
      | nil => rw [hd] at hp; simp at hp
      | cons _ _ => rfl
    have e2 : decide ((Lib.decDigits u).length ≤ 6) = true := by rw [decide_eq_true_eq]; exact hl
    have e3 : (decide (1 < (Lib.decDigits u).length) && (Lib.decDigits u).head? == some 48) = false := by
      by_cases h0 : u = 0
      · subst h0
        rw [show Lib.decDigits 0 = [48] by rw [Lib.decDigits, dif_pos (by omega)]; rfl]
        decide
      · have := dd_head u h0
        have : ((Lib.decDigits u).head? == some 48) = false := by rw [beq_eq_false_iff_ne]; exact this
        rw [this, Bool.and_false]
    simp [numB, e1, e2, e3]
  exact ⟨h1, by simp [numV, h1, dd_atoi]⟩
theorem digit_not {c : UInt8} (h : isDig c = true) : c ≠ 32 ∧ c ≠ 117 ∧ c ≠ 63 ∧ c ≠ 109 ∧ c ≠ 43 := by
  simp only [isDig, Bool.and_eq_true, decide_eq_true_eq] at h
  refine ⟨?_, ?_, ?_, ?_, ?_⟩ <;> (intro e; subst e; revert h; decide)
theorem hd_dd (u : Nat) (r : List UInt8) (p : UInt8 → Bool) (hp : ∀ c, isDig c = true → p c = true) : Hd (Lib.decDigits u ++ r) p := by
  have h1 := dd_pos u
  have h2 := dd_all u
  cases hd : Lib.decDigits u with
  | nil => rw [hd] at h1; simp at h1
  | cons c t =>
    rw [hd] at h2
    intro x hx
    simp only [List.cons_append, List.head?_cons, Option.some.injEq] at hx
    subst hx
    exact hp _ (h2 _ (by simp))
theorem hd_cons (c : UInt8) (r : List UInt8) (p : UInt8 → Bool) (h : p c = true) : Hd (c :: r) p := by
  intro x hx
  simp only [List.head?_cons, Option.some.injEq] at hx
  subst hx
  exact h

/-- The parts that Text writes. -/
structure Good (p : PV) : Prop where
  pre : p.pre = uS ∨ p.pre = qS ∨ (p.pre = ⟨#[]⟩ ∧ p.plus = 0)
  num : 0 ≤ p.num ∧ p.num ≤ 999999
  plus : 0 ≤ p.plus ∧ p.plus ≤ 999999
def plT (n : Int) : List UInt8 := if n = 0 then [] else [32, 43, 32] ++ Lib.decDigits n.toNat
def ptx (p : PV) : List UInt8 := p.pre.data.toList ++ (Lib.decDigits p.num.toNat ++ plT p.plus)
/-- What stands behind a part: nothing, a comma, or the bracket. -/
def Stop (r : List UInt8) : Prop := Hd r fun c => c == 44 || c == 41
theorem Stop.hd {r : List UInt8} (h : Stop r) (p : UInt8 → Bool) (h1 : p 44 = true) (h2 : p 41 = true) : Hd r p := by
  intro c hc
  have := h c hc
  simp only [Bool.or_eq_true, beq_iff_eq] at this
  rcases this with rfl | rfl
  · exact h1
  · exact h2
theorem plT_hd (n : Int) {r : List UInt8} (h : Stop r) : Hd (plT n ++ r) fun c => !isDig c := by
  unfold plT
  split
  · exact h.hd _ (by decide) (by decide)
  · exact hd_cons _ _ _ (by decide)
/-- The sign and the number of a part. -/
theorem pre_at {s : ByteArray} {k : Nat} {sp : List UInt8} {p : PV} {r : List UInt8} (hg : Good p) (hsp : Sp sp) (h : At s k (sp ++ (ptx p ++ r))) :
    (preOf s k).1 = p.pre ∧ (preOf s k).2 = k + sp.length + p.pre.size ∧ At s (k + sp.length + p.pre.size) (Lib.decDigits p.num.toNat ++ (plT p.plus ++ r)) := by
  have e : ptx p ++ r = p.pre.data.toList ++ (Lib.decDigits p.num.toNat ++ (plT p.plus ++ r)) := by simp [ptx]
  rw [e] at h
  rcases hg.pre with hp | hp | ⟨hp, _⟩
  · rw [hp] at h ⊢
    obtain ⟨h1, h2, h3⟩ := At.sign_yes uS h hsp (hd_cons _ _ _ (by decide))
    unfold preOf
    rw [if_pos h1]
    exact ⟨rfl, h2, h3⟩
  · rw [hp] at h ⊢
    obtain ⟨h1, h2, h3⟩ := At.sign_no (c := 117) (p := []) h hsp (hd_cons _ _ _ (by decide)) (hd_cons _ _ _ (by decide))
    have h1' : signB s k uS = false := h1
    have h2' : signEnd s k uS = k + sp.length := h2
    obtain ⟨g1, g2, g3⟩ := At.sign_yes (sp := []) qS h3 (.inl rfl) (hd_cons _ _ _ (by decide))
    unfold preOf
    rw [h1', h2', if_pos g1]
    exact ⟨rfl, g2, g3⟩
  · rw [hp] at h ⊢
    have hh : At s k (sp ++ (Lib.decDigits p.num.toNat ++ (plT p.plus ++ r))) := h
    obtain ⟨h1, h2, h3⟩ := At.sign_no (c := 117) (p := []) hh hsp (hd_dd _ _ _ fun c hc => by simpa using (digit_not hc).1) (hd_dd _ _ _ fun c hc => by simpa using (digit_not hc).2.1)
    have h1' : signB s k uS = false := h1
    have h2' : signEnd s k uS = k + sp.length := h2
    obtain ⟨g1, g2, g3⟩ := At.sign_no (c := 63) (p := []) (sp := []) h3 (.inl rfl) (hd_dd _ _ _ fun c hc => by simpa using (digit_not hc).1) (hd_dd _ _ _ fun c hc => by simpa using (digit_not hc).2.2.1)
    have g1' : signB s (k + sp.length) qS = false := g1
    have g2' : signEnd s (k + sp.length) qS = k + sp.length := by simpa using g2
    unfold preOf
    rw [h1', h2', g1', g2']
    exact ⟨rfl, rfl, h3⟩
theorem part_at {s : ByteArray} {k : Nat} {sp : List UInt8} {p : PV} {r : List UInt8} (hg : Good p) (hsp : Sp sp) (hr : Stop r) (h : At s k (sp ++ (ptx p ++ r))) :
    partOf s k = ⟨p.pre, p.num, p.plus, true, k + sp.length + (ptx p).length⟩ ∧ At s (k + sp.length + (ptx p).length) r := by
  have hend : At s (k + sp.length + (ptx p).length) r := (At.next h rfl).next rfl
  refine ⟨?_, hend⟩
  obtain ⟨a1, a2, a3⟩ := pre_at hg hsp h
  obtain ⟨b1, b2, b3⟩ := a3.dig (dd_all _) (plT_hd p.plus hr)
  have hn := num_dd p.num.toNat (by have := hg.num; omega)
  have hnv : ((p.num.toNat : Nat) : Int) = p.num := by have := hg.num; omega
  unfold partOf
  simp only [a1, a2, b1, b2, hn.1, hn.2, hnv]
  have hps : p.pre.size = p.pre.data.toList.length := by simp
  rw [if_neg (by decide)]
  by_cases h0 : p.plus = 0
  · have e0 : plT p.plus = [] := by simp [plT, h0]
    rw [e0] at b3
    have el : k + sp.length + p.pre.size + (Lib.decDigits p.num.toNat).length = k + sp.length + (ptx p).length := by
      simp [ptx, e0]; omega
    by_cases hp : p.pre = ⟨#[]⟩
    · rw [if_pos hp, h0, ← el]
    · rw [if_neg hp]
      obtain ⟨c1, c2, _⟩ := At.sign_no (sp := []) (c := 43) (p := []) b3 (.inl rfl) (hr.hd _ (by decide) (by decide)) (hr.hd _ (by decide) (by decide))
      have c1' : signB s (k + sp.length + p.pre.size + (Lib.decDigits p.num.toNat).length) plS = false := c1
      have c2' : signEnd s (k + sp.length + p.pre.size + (Lib.decDigits p.num.toNat).length) plS = k + sp.length + p.pre.size + (Lib.decDigits p.num.toNat).length := by simpa using c2
      rw [if_pos c1', c2', h0, ← el]
  · have e0 : plT p.plus = [32, 43, 32] ++ Lib.decDigits p.plus.toNat := by simp [plT, h0]
    have hp : p.pre ≠ ⟨#[]⟩ := by
      rcases hg.pre with hp | hp | ⟨_, hp⟩
      · rw [hp]; decide
      · rw [hp]; decide
      · exact absurd hp h0
    rw [if_neg hp]
    rw [e0] at b3
    have b3' : At s (k + sp.length + p.pre.size + (Lib.decDigits p.num.toNat).length) ([32] ++ (plS.data.toList ++ ([32] ++ (Lib.decDigits p.plus.toNat ++ r)))) := by simpa using b3
    obtain ⟨c1, c2, c3⟩ := At.sign_yes plS b3' (.inr rfl) (hd_cons _ _ _ (by decide))
    rw [if_neg (by rw [c1]; decide), c2]
    obtain ⟨d1, d2⟩ := c3.sp (.inr rfl) (hd_dd _ _ _ fun c hc => by simpa using (digit_not hc).1)
    rw [d1]
    obtain ⟨f1, f2, _⟩ := d2.dig (dd_all _) (hr.hd _ (by decide) (by decide))
    have hm := num_dd p.plus.toNat (by have := hg.plus; omega)
    have hmv : ((p.plus.toNat : Nat) : Int) = p.plus := by have := hg.plus; omega
    rw [f1, f2, hm.1, hm.2, hmv]
    congr 1
    have s1 : plS.size = 1 := rfl
    have s2 : ([32] : List UInt8).length = 1 := rfl
    simp [ptx, e0]
    omega
/-- The parts with commas between them, and the bracket. -/
def ltx : List PV → List UInt8
  | [] => [41]
  | [p] => ptx p ++ [41]
  | p :: q :: r => ptx p ++ ([44] ++ ([32] ++ ltx (q :: r)))
theorem list_at {s : ByteArray} : ∀ (ps : List PV) (sp : List UInt8) (f k : Nat), ps ≠ [] → (∀ p ∈ ps, Good p) → Sp sp → ps.length ≤ f → At s k (sp ++ ltx ps) → listOf s f k = some (ps, s.size) := by
  intro ps
  induction ps with
  | nil => intro sp f k h; exact absurd rfl h
  | cons p r ih =>
    intro sp f k _ hg hsp hf h
    obtain ⟨f, rfl⟩ : ∃ g, f = g + 1 := ⟨f - 1, by simp at hf; omega⟩
    cases r with
    | nil =>
      have h' : At s k (sp ++ (ptx p ++ ([41] ++ []))) := by simpa [ltx] using h
      obtain ⟨h1, h2⟩ := part_at (hg p (by simp)) hsp (hd_cons _ _ _ (by decide)) h'
      obtain ⟨a1, a2, a3⟩ := At.sign_yes (sp := []) rpS h2 (.inl rfl) (hd_cons _ _ _ (by decide))
      rw [listOf, h1]
      simp only
      rw [if_neg (by decide), if_pos a1, a2, a3.end_]
      rfl
    | cons q t =>
      have h' : At s k (sp ++ (ptx p ++ ([44] ++ ([32] ++ ltx (q :: t))))) := by simpa [ltx] using h
      obtain ⟨h1, h2⟩ := part_at (hg p (by simp)) hsp (hd_cons _ _ _ (by decide)) h'
      obtain ⟨a1, a2, a3⟩ := At.sign_no (sp := []) (c := 41) (p := []) h2 (.inl rfl) (hd_cons _ _ _ (by decide)) (hd_cons _ _ _ (by decide))
      have a1' : signB s (k + sp.length + (ptx p).length) rpS = false := a1
      have a2' : signEnd s (k + sp.length + (ptx p).length) rpS = k + sp.length + (ptx p).length := by simpa using a2
      obtain ⟨b1, b2, b3⟩ := At.sign_yes (sp := []) cmS h2 (.inl rfl) (hd_cons _ _ _ (by decide))
      have hi := ih [32] f _ (by simp) (fun x hx => hg x (by simp [hx])) (.inr rfl) (by simp at hf ⊢; omega) b3
      rw [listOf, h1]
      simp only
      rw [if_neg (by decide), if_neg (by rw [a1']; decide), a2', if_neg (by rw [b1]; decide), b2, hi]
      rfl
/-- The text of parts. -/
def wtx : List PV → List UInt8
  | [p] => ptx p
  | ps => [109, 97, 120, 40] ++ ltx ps
theorem lvl_at {s : ByteArray} {ps : List PV} (hne : ps ≠ []) (hg : ∀ p ∈ ps, Good p) (h : s.data.toList = wtx ps) : lvlOf s 0 = some ps := by
  have h0 := At.whole s
  rw [h] at h0
  have hsz : s.size = (wtx ps).length := by rw [← h]; simp
  match ps, hne, hg with
  | [p], _, hg =>
    have hgp := hg p (by simp)
    have h0' : At s 0 ([] ++ (ptx p ++ [])) := by simpa [wtx] using h0
    obtain ⟨h1, h2⟩ := part_at hgp (.inl rfl) (fun c hc => by cases hc) h0'
    have hh : ∀ q : UInt8 → Bool, (∀ c, isDig c = true → q c = true) → q 117 = true → q 63 = true → Hd (ptx p) q := by
      intro q q1 q2 q3
      unfold ptx
      rcases hgp.pre with hp | hp | ⟨hp, _⟩
      · rw [hp]; exact hd_cons _ _ _ q2
      · rw [hp]; exact hd_cons _ _ _ q3
      · rw [hp]; exact hd_dd _ _ _ q1
    have h0'' : At s 0 ([] ++ ptx p) := by simpa [wtx] using h0
    obtain ⟨a1, a2, _⟩ := At.sign_no (c := 109) (p := [97, 120]) h0'' (.inl rfl) (hh _ (fun c hc => by simpa using (digit_not hc).1) (by decide) (by decide)) (hh _ (fun c hc => by simpa using (digit_not hc).2.2.2.1) (by decide) (by decide))
    have a1' : signB s 0 mxS = false := a1
    have a2' : signEnd s 0 mxS = 0 := a2
    have e1 := h2.end_
    have hp : partsOf s 0 = some ([p], s.size) := by
      unfold partsOf
      rw [if_pos a1', a2', h1, ← e1]
      rfl
    have e2 : spEnd s s.size = s.size := by
      unfold spEnd
      rw [List.drop_eq_nil_of_le (by simp)]
      rfl
    unfold lvlOf
    rw [hp]
    simp only
    rw [if_pos e2]
  | p :: q :: r, _, hg =>
    have h0' : At s 0 ([] ++ (mxS.data.toList ++ ([40] ++ ltx (p :: q :: r)))) := by simpa [wtx] using h0
    obtain ⟨a1, a2, a3⟩ := At.sign_yes mxS h0' (.inl rfl) (hd_cons _ _ _ (by decide))
    obtain ⟨b1, b2, b3⟩ := At.sign_yes (sp := []) lpS a3 (.inl rfl) (hd_cons _ _ _ (by decide))
    have hl : (p :: q :: r).length ≤ s.size + 1 := by
      have key : ∀ ps : List PV, ps.length ≤ (ltx ps).length := by
        intro ps
        induction ps with
        | nil => simp
        | cons p r ih =>
          cases r with
          | nil => simp [ltx]
          | cons q t =>
            simp only [ltx, List.length_append, List.length_cons, List.length_nil] at ih ⊢
            omega
      have := key (p :: q :: r)
      rw [hsz]
      show _ ≤ ([109, 97, 120, 40] ++ ltx (p :: q :: r)).length + 1
      rw [List.length_append]
      omega
    have hL := list_at (p :: q :: r) [] (s.size + 1) _ (by simp) hg (.inl rfl) hl b3
    unfold lvlOf partsOf
    rw [if_neg (by rw [a1]; decide), a2, if_neg (by rw [b1]; decide), b2, hL]
    simp only
    rw [if_pos]
    unfold spEnd
    rw [List.drop_eq_nil_of_le (by simp)]
    rfl
/-- The parts of a level. -/
def pvs (c : Int) (vs : List (Int × Int)) : List PV :=
  (if c ≠ 0 ∨ vs.length = 0 then [⟨⟨#[]⟩, c, 0⟩] else []) ++ (vs.filter fun p => decide (0 ≤ p.1)).map (fun p => ⟨uS, p.1, p.2⟩) ++ (vs.reverse.filter fun p => decide (p.1 < 0)).map fun p => ⟨qS, -1 - p.1, p.2⟩
def InR (vs : List (Int × Int)) : Prop := ∀ p ∈ vs, (-65536 ≤ p.1 ∧ p.1 ≤ 7) ∧ 0 ≤ p.2 ∧ p.2 ≤ 100
theorem pvs_ne (c : Int) (vs : List (Int × Int)) : pvs c vs ≠ [] := by
  intro h
  unfold pvs at h
  simp only [List.append_eq_nil_iff, List.map_eq_nil_iff] at h
  obtain ⟨⟨h1, h2⟩, h3⟩ := h
  split at h1
  · cases h1
  · rename_i hc
    cases vs with
    | nil => simp at hc
    | cons p r =>
      by_cases hp : 0 ≤ p.1
      · rw [List.filter_eq_nil_iff] at h2
        have := h2 p (by simp)
        simp only [decide_eq_true_eq] at this
        exact this hp
      · rw [List.filter_eq_nil_iff] at h3
        have := h3 p (by simp)
        simp only [decide_eq_true_eq] at this
        omega
theorem pvs_cases {c : Int} {vs : List (Int × Int)} {p : PV} (h : p ∈ pvs c vs) : p = ⟨⟨#[]⟩, c, 0⟩ ∨ (∃ q ∈ vs, 0 ≤ q.1 ∧ p = ⟨uS, q.1, q.2⟩) ∨ (∃ q ∈ vs, q.1 < 0 ∧ p = ⟨qS, -1 - q.1, q.2⟩) := by
  unfold pvs at h
  rcases List.mem_append.1 h with h | h
  · rcases List.mem_append.1 h with h | h
    · left
      split at h
      · simpa using h
      · simp at h
    · right; left
      obtain ⟨q, hq, rfl⟩ := List.mem_map.1 h
      obtain ⟨h1, h2⟩ := List.mem_filter.1 hq
      exact ⟨q, h1, by simpa using h2, rfl⟩
  · right; right
    obtain ⟨q, hq, rfl⟩ := List.mem_map.1 h
    obtain ⟨h1, h2⟩ := List.mem_filter.1 hq
    exact ⟨q, by simpa using h1, by simpa using h2, rfl⟩
theorem pvs_good {c : Int} {vs : List (Int × Int)} (hc : 0 ≤ c ∧ c ≤ 100) (hi : InR vs) : ∀ p ∈ pvs c vs, Good p := by
  intro p hp
  rcases pvs_cases hp with rfl | ⟨q, hq, h0, rfl⟩ | ⟨q, hq, h0, rfl⟩
  · exact ⟨.inr (.inr ⟨rfl, rfl⟩), ⟨hc.1, by show c ≤ 999999; omega⟩, ⟨Int.le_refl 0, by show (0 : Int) ≤ 999999; omega⟩⟩
  · have := hi q hq
    exact ⟨.inl rfl, ⟨h0, by show q.1 ≤ 999999; omega⟩, ⟨this.2.1, by show q.2 ≤ 999999; omega⟩⟩
  · have := hi q hq
    exact ⟨.inr (.inl rfl), ⟨by show 0 ≤ -1 - q.1; omega, by show -1 - q.1 ≤ 999999; omega⟩, ⟨this.2.1, by show q.2 ≤ 999999; omega⟩⟩
theorem itoa_dd {n : Int} (h : 0 ≤ n) : Lib.itoa n = Lib.decDigits n.toNat := by
  unfold Lib.itoa
  rw [if_neg (by omega)]
theorem varT_ptx {p : ByteArray} {n pl : Int} (hn : 0 ≤ n) (hp : 0 ≤ pl) : (varT p n pl).data.toList = ptx ⟨p, n, pl⟩ := by
  unfold varT ptx plT
  rw [itoa_dd hn, itoa_dd hp]
  split
  · simp
  · simp
theorem txtL_pvs {c : Int} {vs : List (Int × Int)} (hc : 0 ≤ c) (hi : InR vs) : (txtL c vs).map (·.data.toList) = (pvs c vs).map ptx := by
  unfold txtL pvs tsC tsU tsQ
  simp only [List.map_append, List.map_map]
  congr 1
  · congr 1
    · split
      · simp [ptx, plT, itoa_dd hc]
      · rfl
    · refine List.map_congr_left fun q hq => ?_
      obtain ⟨h1, h2⟩ := List.mem_filter.1 hq
      have := hi q h1
      exact varT_ptx (by simpa using h2) this.2.1
  · refine List.map_congr_left fun q hq => ?_
    obtain ⟨h1, h2⟩ := List.mem_filter.1 hq
    have := hi q (by simpa using h1)
    simp only [decide_eq_true_eq] at h2
    exact varT_ptx (by omega) this.2.1
theorem join_ltx : ∀ ps : List PV, ps ≠ [] → Lib.join (ps.map ptx) [44, 32] ++ [41] = ltx ps := by
  intro ps
  induction ps with
  | nil => intro h; exact absurd rfl h
  | cons p r ih =>
    intro _
    cases r with
    | nil => simp [ltx, Lib.join_one]
    | cons q t =>
      have h := ih (by simp)
      rw [List.map_cons, Lib.join_cons]
      rw [List.map_cons, Lib.join_cons] at h
      simp only [ltx, List.map_cons, Lib.joinTail, List.flatten_cons, List.append_assoc] at h ⊢
      rw [h]
      simp
theorem txt_wtx {c : Int} {vs : List (Int × Int)} (hc : 0 ≤ c) (hi : InR vs) : (txtB (txtL c vs)).data.toList = wtx (pvs c vs) := by
  have h := txtL_pvs hc hi
  have hne := pvs_ne c vs
  generalize txtL c vs = ts at h
  generalize pvs c vs = ps at h hne
  match ts, ps, hne, h with
  | [], [], hne, _ => exact absurd rfl hne
  | [], p :: r, _, h => simp at h
  | [t], [], _, h => simp at h
  | [t], [p], _, h => simpa [txtB, wtx] using h
  | [t], p :: q :: r, _, h => simp at h
  | t :: u :: l, [], _, h => simp at h
  | t :: u :: l, [p], _, h => simp at h
  | t :: u :: l, p :: q :: r, _, h =>
    have hj := join_ltx (p :: q :: r) (by simp)
    rw [← h] at hj
    show ((⟨#[109, 97, 120, 40]⟩ ++ ⟨(Lib.join ((t :: u :: l).map (·.data.toList)) [44, 32]).toArray⟩ ++ ⟨#[41]⟩ : ByteArray)).data.toList = [109, 97, 120, 40] ++ ltx (p :: q :: r)
    rw [← hj]
    simp
theorem raiseAll_append (M a b : List (Int × Int)) : raiseAll M (a ++ b) = raiseAll (raiseAll M a) b := by
  unfold raiseAll
  rw [List.foldl_append]
theorem accM_flat (ps : List PV) : accM ps = raiseAll [] (ps.flatMap plV) := by
  have key : ∀ (ps : List PV) (M : List (Int × Int)), ps.foldl (fun M p => raiseAll M (plV p)) M = raiseAll M (ps.flatMap plV) := by
    intro ps
    induction ps with
    | nil => intro M; rfl
    | cons p r ih => intro M; rw [List.foldl_cons, ih, List.flatMap_cons, raiseAll_append]
  exact key ps []
theorem raiseL_new {M : List (Int × Int)} {i p : Int} (hp : 0 ≤ p) (h : ∀ q ∈ M, q.1 ≠ i) : raiseL M i p = insL (i, p) M := by
  have h1 : M.filter (fun q => !(q.1 == i)) = M := by
    rw [List.filter_eq_self]
    intro q hq
    have : (q.1 == i) = false := by rw [beq_eq_false_iff_ne]; exact h q hq
    rw [this]
    rfl
  have h2 : offAt M i = 0 := by
    unfold offAt
    rw [List.find?_eq_none.2]
    · rfl
    · intro q hq
      simpa using h q hq
  unfold raiseL putL
  rw [h1, h2, show max 0 p = p by omega]
theorem mem_raiseAll : ∀ (L M : List (Int × Int)) (x : Int × Int), (L.Pairwise fun p q => p.1 ≠ q.1) → (∀ p ∈ L, 0 ≤ p.2) → (∀ p ∈ L, ∀ q ∈ M, q.1 ≠ p.1) → (x ∈ raiseAll M L ↔ x ∈ M ∨ x ∈ L) := by
  intro L
  induction L with
  | nil => intro M x _ _ _; simp [raiseAll]
  | cons p r ih =>
    intro M x hd h0 hm
    rw [List.pairwise_cons] at hd
    have e : raiseAll M (p :: r) = raiseAll (raiseL M p.1 p.2) r := rfl
    rw [e, raiseL_new (h0 p (by simp)) (hm p (by simp))]
    rw [ih _ x hd.2 (fun q hq => h0 q (by simp [hq])) (fun q hq y hy => by
      rcases mem_insL.1 hy with rfl | hy
      · exact hd.1 q hq
      · exact hm q (by simp [hq]) y hy)]
    rw [mem_insL, List.mem_cons]
    constructor
    · rintro ((h | h) | h)
      · exact .inr (.inl h)
      · exact .inl h
      · exact .inr (.inr h)
    · rintro (h | h | h)
      · exact .inl (.inr h)
      · exact .inl (.inl h)
      · exact .inr h
theorem varV_in {i p : Int} (h1 : -65536 ≤ i ∧ i ≤ 7) (h2 : 0 ≤ p ∧ p ≤ 100) : varV i p = [(i, p)] := by
  simp [varV, varOk, h1, h2]
theorem qu : (qS = uS) = False := by simp [qS, uS]
theorem eu : ((⟨#[]⟩ : ByteArray) = uS) = False := by simp [uS]
theorem eq_ : ((⟨#[]⟩ : ByteArray) = qS) = False := by simp [qS]
theorem pvs_flat {c : Int} {vs : List (Int × Int)} (hi : InR vs) : (pvs c vs).flatMap plV = (vs.filter fun p => decide (0 ≤ p.1)) ++ vs.reverse.filter fun p => decide (p.1 < 0) := by
  have key : ∀ (l : List (Int × Int)) (f : Int × Int → PV), (∀ p ∈ l, plV (f p) = [p]) → (l.map f).flatMap plV = l := by
    intro l f
    induction l with
    | nil => intro _; rfl
    | cons p r ih =>
      intro h
      rw [List.map_cons, List.flatMap_cons, h p (by simp), ih fun q hq => h q (by simp [hq])]
      rfl
  unfold pvs
  rw [List.flatMap_append, List.flatMap_append, key, key]
  · split
    · simp [plV]
    · simp
  · intro p hp
    obtain ⟨h1, h2⟩ := List.mem_filter.1 hp
    have := hi p (by simpa using h1)
    simp only [plV, qu, if_false, if_true]
    rw [varV_in (by omega) this.2]
    congr 1
    exact Prod.ext (by simp; omega) rfl
  · intro p hp
    obtain ⟨h1, h2⟩ := List.mem_filter.1 hp
    have := hi p h1
    simp only [plV, if_true]
    rw [varV_in this.1 this.2]
theorem accM_pvs {c : Int} {vs : List (Int × Int)} (hi : InR vs) (hpw : vs.Pairwise fun p q => p.1 < q.1) : accM (pvs c vs) = vs := by
  refine pw_eq (asc_accM _) hpw fun p => ?_
  have hne : vs.Pairwise fun p q => p.1 ≠ q.1 := hpw.imp fun h => by omega
  rw [accM_flat, pvs_flat hi, mem_raiseAll]
  · simp only [List.not_mem_nil, false_or, List.mem_append, List.mem_filter, List.mem_reverse, decide_eq_true_eq]
    constructor
    · rintro (h | h)
      · exact h.1
      · exact h.1
    · intro h
      by_cases h0 : 0 ≤ p.1
      · exact .inl ⟨h, h0⟩
      · exact .inr ⟨h, by omega⟩
  · rw [List.pairwise_append]
    refine ⟨List.Pairwise.sublist List.filter_sublist hne, List.Pairwise.sublist List.filter_sublist ?_, fun a ha b hb => ?_⟩
    · rw [List.pairwise_reverse]
      exact hne.imp fun h => fun e => h e.symm
    · have h1 := (List.mem_filter.1 ha).2
      have h2 := (List.mem_filter.1 hb).2
      simp only [decide_eq_true_eq] at h1 h2
      omega
  · intro q hq
    rcases List.mem_append.1 hq with h | h
    · exact (hi q (List.mem_filter.1 h).1).2.1
    · exact (hi q (by simpa using (List.mem_filter.1 h).1)).2.1
  · intro q _ x hx
    simp at hx
theorem accC_pvs {c : Int} {vs : List (Int × Int)} (hc : 0 ≤ c ∧ c ≤ 100) : accC (pvs c vs) = c := by
  have key : ∀ (l : List PV) (a : Int), (∀ p ∈ l, plC p = 0) → 0 ≤ a → l.foldl (fun c p => max c (plC p)) a = a := by
    intro l
    induction l with
    | nil => intro a _ _; rfl
    | cons p r ih =>
      intro a h ha
      rw [List.foldl_cons, h p (by simp), show max a 0 = a by omega]
      exact ih a (fun q hq => h q (by simp [hq])) ha
  have hz : ∀ p ∈ (vs.filter fun p => decide (0 ≤ p.1)).map (fun p => (⟨uS, p.1, p.2⟩ : PV)) ++ (vs.reverse.filter fun p => decide (p.1 < 0)).map fun p => (⟨qS, -1 - p.1, p.2⟩ : PV), plC p = 0 := by
    intro p hp
    rcases List.mem_append.1 hp with h | h
    · obtain ⟨q, _, rfl⟩ := List.mem_map.1 h
      simp [plC]
    · obtain ⟨q, _, rfl⟩ := List.mem_map.1 h
      simp [plC]
  unfold accC pvs
  rw [List.append_assoc, List.foldl_append]
  by_cases h : c ≠ 0 ∨ vs.length = 0
  · rw [if_pos h]
    have e : plC (⟨⟨#[]⟩, c, 0⟩ : PV) = c := by
      simp only [plC, eu, eq_, if_false, ofC]
      rw [if_neg (by omega), if_neg (by omega)]
    simp only [List.foldl_cons, List.foldl_nil, e]
    rw [key _ _ hz (by omega)]
    omega
  · rw [if_neg h]
    have : c = 0 := by omega
    rw [List.foldl_nil, key _ _ hz (by omega), this]
theorem firstE_pvs {c : Int} {vs : List (Int × Int)} (hc : 0 ≤ c ∧ c ≤ 100) (hi : InR vs) : firstE (pvs c vs) = 0 := by
  refine firstE_all fun p hp => ?_
  rcases pvs_cases hp with rfl | ⟨q, hq, h0, rfl⟩ | ⟨q, hq, h0, rfl⟩
  · simp only [plE, eu, eq_, if_false, ofE]
    rw [if_neg (by omega), if_neg (by omega)]
  · have := hi q hq
    simp [plE, varE, this]
  · have := hi q hq
    have e : -1 - (-1 - q.1) = q.1 := by omega
    simp only [plE, qu, if_false, if_true, e]
    simp [varE, this]
theorem wtx_len {c : Int} {vs : List (Int × Int)} (hc : 0 ≤ c ∧ c ≤ 100) (hi : InR vs) (hl : vs.length ≤ 12) : (wtx (pvs c vs)).length ≤ 65536 := by
  have hp : ∀ p, Good p → (ptx p).length ≤ 16 := by
    intro p hg
    have h1 := dd_len p.num.toNat (by have := hg.num; omega)
    have h2 := dd_len p.plus.toNat (by have := hg.plus; omega)
    have h3 : p.pre.data.toList.length ≤ 1 := by
      rcases hg.pre with e | e | ⟨e, _⟩ <;> rw [e] <;> decide
    have h4 : (plT p.plus).length ≤ 9 := by
      unfold plT
      split
      · simp
      · simp only [List.length_append, List.length_cons, List.length_nil]; omega
    simp only [ptx, List.length_append]
    omega
  have hlt : ∀ ps : List PV, (∀ p ∈ ps, Good p) → (ltx ps).length ≤ 18 * ps.length + 1 := by
    intro ps
    induction ps with
    | nil => intro _; simp [ltx]
    | cons p r ih =>
      intro h
      have h1 := hp p (h p (by simp))
      have h2 := ih fun q hq => h q (by simp [hq])
      cases r with
      | nil => simp only [ltx, List.length_append, List.length_cons, List.length_nil] at h2 ⊢; omega
      | cons q t => simp only [ltx, List.length_append, List.length_cons, List.length_nil] at h2 ⊢; omega
  have hn : (pvs c vs).length ≤ 25 := by
    unfold pvs
    have h1 := List.length_filter_le (fun p : Int × Int => decide (0 ≤ p.1)) vs
    have h2 := List.length_filter_le (fun p : Int × Int => decide (p.1 < 0)) vs.reverse
    rw [List.length_reverse] at h2
    have h3 : (if c ≠ 0 ∨ vs.length = 0 then [(⟨⟨#[]⟩, c, 0⟩ : PV)] else []).length ≤ 1 := by split <;> simp
    simp only [List.length_append, List.length_map]
    omega
  have hg := pvs_good hc hi
  generalize pvs c vs = ps at hn hg
  match ps, hn, hg with
  | [], _, _ => simp [wtx, ltx]
  | [p], _, hg => have := hp p (hg p (by simp)); show (ptx p).length ≤ _; omega
  | p :: q :: r, hn, hg =>
    have := hlt (p :: q :: r) hg
    show ([109, 97, 120, 40] ++ ltx (p :: q :: r)).length ≤ _
    rw [List.length_append]
    simp only [List.length_cons, List.length_nil] at this hn ⊢
    omega

theorem prs_txt {c : Int} {vs : List (Int × Int)} (h : vldB c vs = true) (hl : vs.length ≤ 12) : (txtB (txtL c vs)).size ≤ 65536 ∧ prsE (txtB (txtL c vs)) = 0 ∧ prsL (txtB (txtL c vs)) = (c, vs) := by
  have hc := (vldB_parts h).1
  have hi : InR vs := vld_in h
  have h1 := txt_wtx hc.1 hi
  have h2 := wtx_len hc hi hl
  have hsz : (txtB (txtL c vs)).size ≤ 65536 := by
    rw [← h1] at h2
    simpa using h2
  have h3 := lvl_at (pvs_ne c vs) (pvs_good hc hi) h1
  have h4 := firstE_pvs hc hi
  have h5 : canonC c vs = c := by
    unfold canonC
    rcases vld_cov h with h0 | h0
    · subst h0; simp
    · rw [if_neg]
      intro hcv
      obtain ⟨p, hp, hle⟩ := List.any_eq_true.1 hcv
      have := h0 p hp
      simp only [decide_eq_true_eq] at hle
      omega
  refine ⟨hsz, ?_, ?_⟩
  · unfold prsE
    rw [if_neg (by omega), h3]
    exact h4
  · unfold prsL
    rw [if_neg (by omega), h3]
    simp only
    rw [if_pos h4, accC_pvs hc, accM_pvs hi (vld_pw h), h5]
end Go.Proofs.YtipnabbdhmapkaaGreatDoor
