/- A range over an iterator that turns blocks of its own between two rounds. -/
import Derived.Test.YtobaeeobfcffoaaDoorW
import Derived.RangeFuncNested
namespace Go.Proofs.YtobaeeobfcffoaaDoor
open Go.RowKit

/-- The blocks X are the iterator's: it may turn one of them and lay new ones, which are its own from then on. -/
def Lets {α : Type} (J : (Nat → Prop) → List α → World → Prop) : Prop :=
  ∀ X pre W W' row, J X pre W → W.grownBy W' row → (∀ r, row = some r → X r) → J (fun r => X r ∨ (W.heap.size ≤ r ∧ r < W'.heap.size)) pre W'

/-- The contract of such an iterator. -/
def SeqX {α : Type} (F : Fence) (n : Nat) (P : Program) (g : Nat) (lb : Array Value) (encs : α → Array Value) (Gd : α → Prop) (Kp : World → World → Prop) (S Sp : List α → Prop) (N : Nat) (w : World) : Prop :=
  ∀ (l : Nat) (J : (Nat → Prop) → List α → World → Prop) (Jx : List α → World → Prop) (W : World), Below w.heap.size w W → Lets J →
    (∀ X pre x W1, J X pre W1 → pre.length < N → Gd x → YieldAt F (n - 1) P l (encs x) W1 fun e W' =>
      (e = .returned (.bool true) ∧ J X (pre ++ [x]) W' ∧ Kp W1 W' ∧ W1.heap.size ≤ W'.heap.size ∧ ∀ r, X r → W'.heap[r]? = W1.heap[r]?) ∨ (e = .returned (.bool false) ∧ Jx (pre ++ [x]) W')) →
    J (fun _ => False) [] W →
    CallsIn F n P g (#[.func (.yield l) #[] #[]] ++ lb) W fun e W' => (∃ v, e = .returned v) ∧ ((∃ X xs, S xs ∧ J X xs W') ∨ (∃ pre, Sp pre ∧ Jx pre W'))

/-- What a round's code keeps: the loop's two blocks and the iterator's. -/
structure KeptX (b : Nat) (X : Nat → Prop) (W W' : World) : Prop where
  size : W.heap.size ≤ W'.heap.size
  b0 : W'.heap[b]? = W.heap[b]?
  b1 : W'.heap[b + 1]? = W.heap[b + 1]?
  x : ∀ r, X r → W'.heap[r]? = W.heap[r]?

def postX {α : Type} (b : Nat) (X : Nat → Prop) (Kp : World → World → Prop) (I : List α → World → Prop) (Ix : Code → List α → World → Prop) (xs : List α) (W : World) : Exit → Act → World → Prop
  | .normal, _, W' => KeptX b X W W' ∧ Kp W W' ∧ I xs W'
  | .ret, _, W' => KeptX b X W W' ∧ Ix .ret xs W'
  | .exit id, _, W' => KeptX b X W W' ∧ Ix (.exit id) xs W'
  | _, _, _ => False

theorem wpIn_rangeX {α : Type} {F : Fence} {n : Nat} {P : Program} {g : Operand} {ps : Array Tmp} {assign body : Code} {Q : Exit → Act → World → Prop} {a : Act} {w : World}
    (hro : F.round = none) (h1 : 1 ≤ n) {gf : Nat} {lb : Array Value} (hg : a.eval g = .func (.func gf) #[] lb) (hFg : F.fn gf) (eg : ∀ args w, (callFunc gf args).run P w = .ok (.enter gf args) w)
    {encs : α → Array Value} {Gd : α → Prop} {Kp : World → World → Prop} {S Sp : List α → Prop} {N : Nat} (hseq : SeqX F (n - 1) P gf lb encs Gd Kp S Sp N w)
    (hKt : ∀ {A B C : World}, Kp A B → Kp B C → Kp A C) (hKb : ∀ (W : World) (l : Nat) (o : Obj), w.heap.size ≤ l → l < W.heap.size → Kp W (W.putObj l o)) (hps : ∀ x, (encs x).size = ps.size)
    (I : (Nat → Prop) → List α → World → Prop) (Ix : Code → List α → World → Prop)
    (hI : ∀ X pre W W' row, (∀ r, X r → w.heap.size + 2 ≤ r ∧ r < W.heap.size) → I X pre W → W.grownBy W' row → (∀ r, row = some r → X r) → I (fun r => X r ∨ (W.heap.size ≤ r ∧ r < W'.heap.size)) pre W')
    (hIb : ∀ X pre W l o, w.heap.size ≤ l → l < w.heap.size + 2 → I X pre W → I X pre (W.putObj l o))
    (hIxb : ∀ c pre W l o, w.heap.size ≤ l → l < w.heap.size + 2 → Ix c pre W → Ix c pre (W.putObj l o))
    (h0 : ∀ o o', I (fun _ => False) [] ((w.alloc o).alloc o'))
    (Ax : α → Act → World → Prop) (hAx : ∀ x a' W o, Ax x a' W → Ax x a' (W.putObj (w.heap.size + 1) o))
    (hassign : ∀ l X pre x W (K : Act → World → Prop), (∀ r, X r → w.heap.size + 2 ≤ r ∧ r < W.heap.size) → w.heap.size + 2 ≤ W.heap.size → Gd x → I X pre W →
      (∀ a' W', KeptX w.heap.size X W W' → Kp W W' → I X pre W' → Ax x a' W' → K a' W') →
      assign.wpIn (F.inRound l) (n - 1 - 1) P (Exit.then K (fun _ _ _ => False)) { tmps := (ps.zip (encs x)).foldl (fun t (p, v) => t.setIfInBounds p v) a.tmps, defers := [] } W)
    (hbody : ∀ X pre x a' W, (∀ r, X r → w.heap.size + 2 ≤ r ∧ r < W.heap.size) → w.heap.size + 2 ≤ W.heap.size → Gd x → I X pre W → Ax x a' W → pre.length < N →
      body.wpIn (F.inRound (w.heap.size + 1)) (n - 1 - 1) P (postX w.heap.size X Kp (I X) Ix (pre ++ [x]) W) a' W)
    (hdone : ∀ X xs W, S xs → I X xs W → W.heap[w.heap.size]? = some (.deferred (some [])) → Q .normal { a with defers := { target := .collected w.heap.size, args := #[] } :: a.defers } W)
    (hstop : ∀ c pre W, Sp pre → Ix c pre W → W.heap[w.heap.size]? = some (.deferred (some [])) → c.wpIn F n P Q { a with defers := { target := .collected w.heap.size, args := #[] } :: a.defers } W) :
    (Code.rangeFunc g ps assign body).wpIn F n P Q a w := by
  refine wpIn_rangeFunc (fun fn hfn => ?_)
  obtain ⟨rec, hrec⟩ : ∃ rec : LoopState → Option Code → Loop, rec = fun st pe => { state := st, pending := pe, fn, tmps := a.tmps, params := ps, assign, body, defers := w.heap.size } := ⟨_, rfl⟩
  obtain ⟨W1, hW1⟩ : ∃ W1, W1 = (w.alloc (.deferred (some []))).alloc (.loop (rec .ready none)) := ⟨_, rfl⟩
  have hs1 : W1.heap.size = w.heap.size + 2 := by rw [hW1]; simp
  have hD1 : W1.heap[w.heap.size]? = some (.deferred (some [])) := by
    rw [hW1]
    exact (Below.heap_alloc _ _ _ (by simp)).trans (World.alloc_heap_new w _)
  have hL1 : W1.heap[w.heap.size + 1]? = some (.loop (rec .ready none)) := by
    rw [hW1]
    have h := World.alloc_heap_new (w.alloc (.deferred (some []))) (.loop (rec .ready none))
    rw [World.size_alloc] at h
    exact h
  have hB1 : Below w.heap.size w W1 := by rw [hW1]; exact ((Below.refl _ w).alloc (Nat.le_refl _) _).alloc (by simp) _
  have put : ∀ (W : World) (o : Obj), w.heap.size + 1 < W.heap.size → (W.putObj (w.heap.size + 1) o).heap[w.heap.size + 1]? = some o ∧ (W.putObj (w.heap.size + 1) o).heap[w.heap.size]? = W.heap[w.heap.size]? := fun W o h => ⟨World.putObj_heap_same h, World.putObj_heap_other (by omega)⟩
  refine ⟨w.heap.size + 1, [{ target := .collected w.heap.size, args := #[] }], W1, { target := .fn (.func gf) lb, args := #[.func (.yield (w.heap.size + 1)) #[] #[]] }, W1, gf, #[.func (.yield (w.heap.size + 1)) #[] #[]] ++ lb, W1, ?_, ?_, ?_, ?_, fun _ => h1, ?_⟩
  · rw [hro, hW1, hrec]
    exact run_enterLoop_outer _ _ _ _ _
  · simp only [resolve, hg]
    simp [go_sem]
  · intro f' hf'
    simp [Target.leads] at hf'
    rw [← hf']
    exact hFg
  · simp [invoke, go_sem, eg]
  refine (hseq (w.heap.size + 1)
    (fun X pre W => I X pre W ∧ (∀ r, X r → w.heap.size + 2 ≤ r ∧ r < W.heap.size) ∧ w.heap.size + 2 ≤ W.heap.size ∧ W.heap[w.heap.size + 1]? = some (.loop (rec .ready none)) ∧ W.heap[w.heap.size]? = some (.deferred (some [])))
    (fun pre W => ∃ c, Ix c pre W ∧ w.heap.size + 2 ≤ W.heap.size ∧ W.heap[w.heap.size + 1]? = some (.loop (rec .done (some c))) ∧ W.heap[w.heap.size]? = some (.deferred (some [])))
    W1 hB1 ?lets ?round ⟨by rw [hW1]; exact h0 _ _, fun _ h => h.elim, by omega, hL1, hD1⟩).mono ?end_
  case lets =>
    rintro X pre W W' row ⟨h, hX, hs, hl, hd⟩ hg' hr
    have hne : ∀ k, k < w.heap.size + 2 → some k ≠ row := fun k hk e => by have := (hX k (hr k e.symm)).1; omega
    refine ⟨hI X pre W W' row hX h hg' hr, fun r h => ?_, Nat.le_trans hs hg'.size, (hg'.block _ (by omega) (hne _ (by omega))).trans hl, (hg'.block _ (by omega) (hne _ (by omega))).trans hd⟩
    rcases h with h | h
    · have := hX r h
      have := hg'.size
      omega
    · omega
  case round =>
    rintro X pre x W ⟨h, hX, hs, hl, hd⟩ hlen hgd
    have hy := run_yield (P := P) (args := encs x) hl (by rw [hrec]; exact hps x)
    rw [hrec] at hy
    refine ⟨fn, _, assign, body, hy, roundIn_of_wpIn hfn (hassign _ X pre x W _ hX hs hgd h ?_)⟩
    clear hy
    intro a' V hk hkp hi hax
    have hsV : w.heap.size + 2 ≤ V.heap.size := Nat.le_trans hs hk.size
    have hlV : V.heap[w.heap.size + 1]? = some (.loop (rec .ready none)) := hk.b1.trans hl
    have hdV : V.heap[w.heap.size]? = some (.deferred (some [])) := hk.b0.trans hd
    have hXV : ∀ r, X r → w.heap.size + 2 ≤ r ∧ r < V.heap.size := fun r h => by have := hX r h; have := hk.size; omega
    refine ⟨_, run_beginRound hlV (by rw [hrec]), ?_⟩
    obtain ⟨V1, hV1⟩ : ∃ V1, V1 = V.putObj (w.heap.size + 1) (.loop { rec .ready none with state := .busy }) := ⟨_, rfl⟩
    have hp := put V (.loop { rec .ready none with state := .busy }) (by omega)
    have hkV : Kp V V1 := by rw [hV1]; exact hKb _ _ _ (by omega) (by omega)
    have hiV : I X pre V1 := by rw [hV1]; exact hIb _ _ _ _ _ (by omega) (by omega) hi
    have haV : Ax x a' V1 := by rw [hV1]; exact hAx _ _ _ _ hax
    have hsV1 : V1.heap.size = V.heap.size := by rw [hV1]; simp
    have hxV : ∀ r, X r → V1.heap[r]? = V.heap[r]? := fun r h => by rw [hV1]; exact World.putObj_heap_other (by have := hX r h; omega)
    rw [← hV1] at hp ⊢
    refine wpIn_mono (hbody X pre x a' V1 (fun r h => by have := hXV r h; omega) (by omega) hgd hiV haV hlen) ?_
    have fin : ∀ (jump : Option Code) (V2 : World), KeptX w.heap.size X V1 V2 → (Instr.endRound (w.heap.size + 1) jump).run P V2 = .ok (.bool jump.isNone) (V2.putObj (w.heap.size + 1) (.loop (rec (if jump.isNone then .ready else .done) jump))) ∧ w.heap.size + 2 ≤ V2.heap.size ∧
        (V2.putObj (w.heap.size + 1) (.loop (rec (if jump.isNone then .ready else .done) jump))).heap[w.heap.size + 1]? = some (.loop (rec (if jump.isNone then .ready else .done) jump)) ∧
        (V2.putObj (w.heap.size + 1) (.loop (rec (if jump.isNone then .ready else .done) jump))).heap[w.heap.size]? = some (.deferred (some [])) := fun jump V2 hk2 => by
      have h2 : w.heap.size + 2 ≤ V2.heap.size := by have := hk2.size; omega
      have e := run_endRound (P := P) jump (hk2.b1.trans hp.1)
      have e2 := put V2 (.loop (rec (if jump.isNone then .ready else .done) jump)) (by omega)
      rw [hrec] at e e2 ⊢
      exact ⟨e, h2, e2.1, e2.2.trans (hk2.b0.trans (hp.2.trans hdV))⟩
    rintro e a2 V2 hpost
    cases e with
    | normal =>
      obtain ⟨hk2, hkp2, hi2⟩ := hpost
      obtain ⟨hr, hs2, hl2, hd2⟩ := fin none V2 hk2
      refine ⟨_, _, hr, .inl ⟨rfl, ⟨hIb _ _ _ _ _ (by omega) (by omega) hi2, fun r h => ?_, by simpa using hs2, hl2, hd2⟩, hKt hkp (hKt (hKt hkV hkp2) (hKb _ _ _ (by omega) (by omega))), ?_, fun r h => ?_⟩⟩
      · have := hXV r h
        have := hk2.size
        simp
        omega
      · have := hk.size
        have := hk2.size
        simp
        omega
      · exact (World.putObj_heap_other (by have := hX r h; omega)).trans ((hk2.x r h).trans ((hxV r h).trans (hk.x r h)))
    | ret =>
      obtain ⟨hk2, hi2⟩ := hpost
      obtain ⟨hr, hs2, hl2, hd2⟩ := fin (some .ret) V2 hk2
      exact ⟨_, _, hr, .inr ⟨rfl, .ret, hIxb _ _ _ _ _ (by omega) (by omega) hi2, by simpa using hs2, hl2, hd2⟩⟩
    | exit id =>
      obtain ⟨hk2, hi2⟩ := hpost
      obtain ⟨hr, hs2, hl2, hd2⟩ := fin (some (.exit id)) V2 hk2
      exact ⟨_, _, hr, .inr ⟨rfl, .exit id, hIxb _ _ _ _ _ (by omega) (by omega) hi2, by simpa using hs2, hl2, hd2⟩⟩
    | goto t => exact hpost.elim
    | panic ch => exact hpost.elim
    | outgrown => exact hpost.elim
  case end_ =>
    rintro e V ⟨⟨v, rfl⟩, (⟨X, xs, hS, hi, hX, hs, hl, hd⟩ | ⟨pre, hSp, c, hi, hs, hl, hd⟩)⟩
    · have e1 := run_endLoop (P := P) hl (by rw [hrec]; simp)
      have e2 := put V (.loop { rec .ready none with state := .exhausted }) (by omega)
      rw [hrec] at e1 e2
      exact ⟨none, _, e1, hdone X xs _ hS (hIb _ _ _ _ _ (by omega) (by omega) hi) (e2.2.trans hd)⟩
    · have e1 := run_endLoop (P := P) hl (by rw [hrec]; simp)
      have e2 := put V (.loop { rec .done (some c) with state := .exhausted }) (by omega)
      rw [hrec] at e1 e2
      exact ⟨some c, _, e1, hstop c pre _ hSp (hIxb _ _ _ _ _ (by omega) (by omega) hi) (e2.2.trans hd)⟩
end Go.Proofs.YtobaeeobfcffoaaDoor
