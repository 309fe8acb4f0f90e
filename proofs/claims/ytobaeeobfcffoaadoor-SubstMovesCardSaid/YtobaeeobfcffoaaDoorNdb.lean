/- The iterator's contract in the form that a caller takes; a caller whose own state lies below the heap at which the loop begins. -/
import Derived.Test.YtobaeeobfcffoaaDoorNdi
namespace Go.Proofs.YtobaeeobfcffoaaDoor
open Go.RowKit

mutual
theorem TmV.more {w : World} {B B' : Nat} (hB : B ≤ B') : ∀ (t : Tm) (v : Value), TmV w B t v → TmV w B' t v
  | .mk k i nm ls ks, v, h => by
    rw [TmV] at h ⊢
    obtain ⟨AL, cl, AK, ck, rfl, hl, hz, hks⟩ := h
    refine ⟨AL, cl, AK, ck, rfl, ⟨hl.1, fun hn => ?_⟩, hz, fun hn => ?_⟩
    · obtain ⟨b, off, e, hb, hc⟩ := hl.2 hn
      refine ⟨b, off, e, by omega, fun j c vs hj => ?_⟩
      obtain ⟨h1, A', cap, h2, h3⟩ := hc j c vs hj
      exact ⟨h1, A', cap, h2, h3.more hB⟩
    · obtain ⟨b, off, e, hb, hc⟩ := hks hn
      exact ⟨b, off, e, by omega, KsV.more hB b ks off hc⟩
theorem KsV.more {w : World} {B B' : Nat} (hB : B ≤ B') (b : Nat) : ∀ (ks : List Tm) (off : Nat), KsV w B b off ks → KsV w B' b off ks
  | [], _, _ => by rw [KsV]; trivial
  | t :: r, off, h => by
    rw [KsV] at h ⊢
    obtain ⟨⟨c0, c1, c2, c3, c4, h0, h1, h2, h3, h4, ht⟩, hr⟩ := h
    exact ⟨⟨c0, c1, c2, c3, c4, h0, h1, h2, h3, h4, TmV.more hB t _ ht⟩, KsV.more hB b r _ hr⟩
end

/-- What is yielded. -/
def encN (x : Nx) : Array Value := #[.agg #[.pointer (some ⟨x.blk, x.off, none⟩), .int .i64 x.nd.b, .int .i64 x.nd.d]]
theorem nd_seq (n : Nat) (hn : 1 ≤ n) (Bt n₀ : Nat) (t : Tm) (w : World) (hr : NodeAt w n₀ Bt ⟨⟨t, 0, 1⟩, Bt, 0⟩) (hsh : ShapesB w) (h0n : 0 < n₀) (hsz : szT t ≤ 1000000000) (hBt : n₀ ≤ Bt ∧ Bt < w.heap.size) :
    SeqX Fence.wide n Tryd.prog 65 #[.pointer (some ⟨Bt, 0, none⟩)] encN (NodeAt w n₀ Bt) (KAt n₀ Bt) (fun xs => xs.map Nx.nd = preT t 0 1) (fun pre => ∃ tl, pre.map Nx.nd ++ tl = preT t 0 1) (szT t) w :=
  fun l J Jx W hW hJ hY h0 => by
    refine (nd1_in n hn l Bt n₀ t J Jx w W hJ hY h0 ⟨hW.mono (by omega), hW.block Bt hBt.2⟩ hr hsh h0n hsz ⟨hBt.1, Nat.lt_of_lt_of_le hBt.2 hW.size⟩).mono ?_
    rintro e W' ⟨hv, h⟩
    refine ⟨hv, ?_⟩
    rcases h with ⟨X, xs, h1, h2⟩ | ⟨pre, tl, h1, h2⟩
    · exact .inl ⟨X, xs, h1, h2⟩
    · exact .inr ⟨pre, ⟨tl, h1⟩, h2⟩

/-- What lies from block b on lies as it lay. -/
def HighB (b : Nat) (W W' : World) : Prop := W.heap.size ≤ W'.heap.size ∧ ∀ r, b ≤ r → r < W.heap.size → W'.heap[r]? = W.heap[r]?
theorem HighB.refl (b : Nat) (W : World) : HighB b W W := ⟨Nat.le_refl _, fun _ _ _ => rfl⟩
theorem HighB.trans {b : Nat} {A B C : World} (h : HighB b A B) (k : HighB b B C) : HighB b A C :=
  ⟨Nat.le_trans h.1 k.1, fun r h1 h2 => (k.2 r h1 (Nat.lt_of_lt_of_le h2 h.1)).trans (h.2 r h1 h2)⟩
theorem HighB.grown {b : Nat} {W W' : World} {row : Option Nat} (hg : W.grownBy W' row) (hr : ∀ r, row = some r → r < b) : HighB b W W' :=
  ⟨hg.size, fun r h1 h2 => hg.block r h2 (fun e => by have := hr r e.symm; omega)⟩
def postB {α : Type} (b : Nat) (Kp : World → World → Prop) (I : List α → World → Prop) (Ix : Code → List α → World → Prop) (xs : List α) (W : World) : Exit → Act → World → Prop
  | .normal, _, W' => HighB b W W' ∧ Kp W W' ∧ I xs W'
  | .ret, _, W' => HighB b W W' ∧ Ix .ret xs W'
  | .exit id, _, W' => HighB b W W' ∧ Ix (.exit id) xs W'
  | _, _, _ => False

theorem wpIn_rangeB {α : Type} {F : Fence} {n : Nat} {P : Program} {g : Operand} {ps : Array Tmp} {assign body : Code} {Q : Exit → Act → World → Prop} {a : Act} {w : World}
    (hro : F.round = none) (h1 : 1 ≤ n) {gf : Nat} {lb : Array Value} (hg : a.eval g = .func (.func gf) #[] lb) (hFg : F.fn gf) (eg : ∀ args w, (callFunc gf args).run P w = .ok (.enter gf args) w)
    {encs : α → Array Value} {Gd : α → Prop} {Kp : World → World → Prop} {S Sp : List α → Prop} {N : Nat} (hseq : SeqX F (n - 1) P gf lb encs Gd Kp S Sp N w)
    (hKt : ∀ {A B C : World}, Kp A B → Kp B C → Kp A C) (hKb : ∀ (W : World) (l : Nat) (o : Obj), w.heap.size ≤ l → l < W.heap.size → Kp W (W.putObj l o)) (hps : ∀ x, (encs x).size = ps.size)
    (I : List α → World → Prop) (Ix : Code → List α → World → Prop)
    (hI : ∀ pre W W', I pre W → Below w.heap.size W W' → I pre W')
    (hIx : ∀ c pre W W', Ix c pre W → Below w.heap.size W W' → Ix c pre W')
    (h0 : I [] w)
    (Ax : α → Act → World → Prop) (hAx : ∀ x a' W o, Ax x a' W → Ax x a' (W.putObj (w.heap.size + 1) o))
    (hassign : ∀ l pre x W (K : Act → World → Prop), w.heap.size + 2 ≤ W.heap.size → Gd x → I pre W →
      (∀ a' W', HighB w.heap.size W W' → Kp W W' → I pre W' → Ax x a' W' → K a' W') →
      assign.wpIn (F.inRound l) (n - 1 - 1) P (Exit.then K (fun _ _ _ => False)) { tmps := (ps.zip (encs x)).foldl (fun t (p, v) => t.setIfInBounds p v) a.tmps, defers := [] } W)
    (hbody : ∀ pre x a' W, w.heap.size + 2 ≤ W.heap.size → Gd x → I pre W → Ax x a' W → pre.length < N →
      body.wpIn (F.inRound (w.heap.size + 1)) (n - 1 - 1) P (postB w.heap.size Kp I Ix (pre ++ [x]) W) a' W)
    (hdone : ∀ xs W, w.heap.size + 2 ≤ W.heap.size → S xs → I xs W → W.heap[w.heap.size]? = some (.deferred (some [])) → Q .normal { a with defers := { target := .collected w.heap.size, args := #[] } :: a.defers } W)
    (hstop : ∀ c pre W, Sp pre → Ix c pre W → W.heap[w.heap.size]? = some (.deferred (some [])) → c.wpIn F n P Q { a with defers := { target := .collected w.heap.size, args := #[] } :: a.defers } W) :
    (Code.rangeFunc g ps assign body).wpIn F n P Q a w := by
  have putB : ∀ (W : World) (l : Nat) (o : Obj), w.heap.size ≤ l → Below w.heap.size W (W.putObj l o) := fun W l o h =>
    ⟨rfl, rfl, rfl, by simp, fun k hk => World.putObj_heap_other (by omega)⟩
  refine wpIn_rangeX hro h1 hg hFg eg hseq hKt hKb hps (fun _ pre W => w.heap.size + 2 ≤ W.heap.size ∧ I pre W) Ix ?_ ?_ (fun c pre W l o h _ hx => hIx c pre W _ hx (putB W l o h)) ?_ Ax hAx ?_ ?_ ?_ hstop
  · rintro X pre W W' row hX ⟨hs, h⟩ hg' hr
    exact ⟨Nat.le_trans hs hg'.size, hI pre W W' h ((Below.refl _ W).grown hg' (by omega) (fun k e => by have := (hX k (hr k e)).1; omega))⟩
  · rintro X pre W l o hl _ ⟨hs, h⟩
    exact ⟨by simpa using hs, hI pre W _ h (putB W l o hl)⟩
  · intro o o'
    exact ⟨by simp, hI [] w _ h0 (((Below.refl _ w).alloc (Nat.le_refl _) _).alloc (by simp) _)⟩
  · rintro l X pre x W K hX hs hgd ⟨_, h⟩ hK
    exact hassign l pre x W K hs hgd h (fun a' W' hh hkp hi hax => hK a' W' ⟨hh.1, hh.2 _ (Nat.le_refl _) (by omega), hh.2 _ (by omega) (by omega), fun r hr => hh.2 r (by have := hX r hr; omega) (hX r hr).2⟩ hkp ⟨Nat.le_trans hs hh.1, hi⟩ hax)
  · rintro X pre x a' W hX hs hgd ⟨_, h⟩ hax hlt
    have hk : ∀ W', HighB w.heap.size W W' → KeptX w.heap.size X W W' := fun W' hh => ⟨hh.1, hh.2 _ (Nat.le_refl _) (by omega), hh.2 _ (by omega) (by omega), fun r hr => hh.2 r (by have := hX r hr; omega) (hX r hr).2⟩
    refine wpIn_mono (hbody pre x a' W hs hgd h hax hlt) ?_
    rintro e a2 W2 hp
    cases e with
    | normal => exact ⟨hk _ hp.1, hp.2.1, Nat.le_trans hs hp.1.1, hp.2.2⟩
    | ret => exact ⟨hk _ hp.1, hp.2⟩
    | exit id => exact ⟨hk _ hp.1, hp.2⟩
    | goto t => exact hp.elim
    | panic ch => exact hp.elim
    | outgrown => exact hp.elim
  · rintro X xs W hS ⟨hs, h⟩ hd
    exact hdone xs W hs hS h hd
end Go.Proofs.YtobaeeobfcffoaaDoor
