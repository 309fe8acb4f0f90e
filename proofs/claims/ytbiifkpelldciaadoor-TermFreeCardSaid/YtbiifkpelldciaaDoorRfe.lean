/- free, Free and Occurs of the reference. -/
import Derived.Test.YtbiifkpelldciaaDoorRad
import Derived.Test.YtbiifkpelldciaaDoorRck
namespace Go.Proofs.YtbiifkpelldciaaDoor
open Go.RowKit

theorem preT_foldl (k i : Int) (nm : ByteArray) (ls : List (Int × List (Int × Int))) (ks : List Tm) (b d : Nat) (S : List Int) : (preT (.mk k i nm ls ks) b d).foldl stepF S = (preL ks k b d 0).foldl stepF (if isFree k i b = true then insS (freeV k i b) S else S) := by
  rw [preT, List.foldl_cons]
  rfl

set_option maxRecDepth 100000 in
set_option maxHeartbeats 8000000 in
theorem rfree_any : ∀ (n : Nat) (t : Tm) (v : Value) (b d B C : Nat) (S : List Int) (A : Option Addr) (cap : Nat) (w : World), szT t ≤ n → b + n ≤ 1000000000 → S.length + szT t ≤ 1000000000 → AscI S → IA w C A S → C ≤ w.heap.size → TmV w B t v → B ≤ w.heap.size →
    Calls Tryd.prog 47 #[.slice A S.length cap, v, .int .i64 b] w (GivesIA ((preT t b d).foldl stepF S) w) := by
  intro n
  induction n with
  | zero => intro t v b d B C S A cap w h; have := szT_pos t; omega
  | succ n ih =>
    intro t v b d B C S A cap w hsz hn hlen hasc hia hC hv hB
    have hv' := hv
    cases t with
    | mk k i nm ls ks =>
    rw [TmV] at hv
    obtain ⟨AL, cl, AK, ck, rfl, hls, hz, hks⟩ := hv
    have B0 := Lib.hid (BxT.start hv' hB)
    have hkl : ks.length ≤ 1759218604441 := by omega
    have IH := Lib.hid ih
    have hszk : szT (.mk k i nm ls ks) = 1 + szL ks := by rw [szT]
    have HSZ := Lib.hid (show szL ks ≤ n by omega)
    have HP := Lib.hid (preT_foldl k i nm ls ks b d S)
    have HIA := Lib.hid ((hia.below ((Below.refl w.heap.size w).alloc (Nat.le_refl _) (.cells #[.int .i64 k, .int .i64 i, .string nm, .slice AL ls.length cl, .slice AK ks.length ck] 27)) hC).more (B' := (w.alloc (.cells #[.int .i64 k, .int .i64 i, .string nm, .slice AL ls.length cl, .slice AK ks.length ck] 27)).heap.size) (by simp; omega))
    clear ih hv' hls hks hsz hia
    go_enter Tryd.func47, Tryd.ntmps47
    obtain ⟨x0, x1, x2, x3, x4, _, _, _, _⟩ := B0.out
    have hslen : S.length + szL ks + 1 ≤ 1000000000 := by omega
    by_cases hfr : isFree k i b = true
    case' pos =>
      have h1 : k = 0 ∧ (b : Int) ≤ i := by
        unfold isFree at hfr
        simp only [Bool.not_eq_true', Bool.or_eq_false_iff, bne_eq_false_iff_eq, decide_eq_false_iff_not] at hfr
        omega
      have HS1 : Hid ((preT (.mk k i nm ls ks) b d).foldl stepF S = (preL ks k b d 0).foldl stepF (insS (wrap64 (i - b)) S)) := Lib.hid (by
        rw [HP.out, if_pos hfr]
        unfold freeV
        rw [if_pos hfr])
      obtain ⟨hk0, hbi⟩ := h1
      have dk : (k == 0) = true := by simpa using hk0
      have dbi : decide ((b : Int) ≤ i) = true := decide_eq_true hbi
      have hil := insS_length (wrap64 (i - b)) S
      have hasc1 := asc_insS (x := wrap64 (i - b)) hasc
      clear hfr hbi hk0
      go_wp2_with fail
      refine (radd_any S _ A cap _ _ HIA.out (Nat.le_refl _) hasc (by omega)).mono ?_
      rintro e w1 ⟨A, cap, rfl, hia1, hb1⟩
      have B1 := Lib.hid (B0.out.next hb1)
      have HIA1 := Lib.hid hia1
      have hl1 : (insS (wrap64 (i - b)) S).length + szL ks ≤ 1000000000 := by omega
      clear hb1 hia1 x0 x1 x2 x3 x4 B0 HIA HP hslen hasc dbi hil dk hlen hszk
      generalize insS (wrap64 (i - b)) S = S at *
      go_wp2_with fail
    case' neg =>
      have HS1 : Hid ((preT (.mk k i nm ls ks) b d).foldl stepF S = (preL ks k b d 0).foldl stepF S) := Lib.hid (by
        rw [HP.out, if_neg hfr])
      have hl1 : S.length + szL ks ≤ 1000000000 := by omega
      have hasc1 := hasc
      by_cases hk0 : k = 0
      case' pos =>
        have dk : (k == 0) = true := by simpa using hk0
        have dbi : decide ((b : Int) ≤ i) = false := by
          unfold isFree at hfr
          simp only [Bool.not_eq_true', Bool.or_eq_false_iff, bne_eq_false_iff_eq, decide_eq_false_iff_not] at hfr
          simp only [decide_eq_false_iff_not]
          omega
        clear hfr hk0
      case' neg =>
        have dk : (k == 0) = false := by simpa using hk0
        clear hfr hk0
      all_goals
        go_wp2_with fail
        clear x0 x1 x2 x3 x4 HP hslen hasc hlen hszk dk
        generalize w.alloc (.cells #[.int .i64 k, .int .i64 i, .string nm, .slice AL ls.length cl, .slice AK ks.length ck] 27) = w1 at *
        have B1 := B0
        have HIA1 := HIA
        clear B0 HIA
    all_goals
      go_loopw [0, 7] (fun s0 s7 wx => ∃ (j : Nat) (A1 : Option Addr) (cap1 : Nat) (S1 : List Int), j ≤ ks.length ∧ s0 = .slice A1 S1.length cap1 ∧ s7 = .int .i64 (j : Int) ∧ AscI S1 ∧ S1.length + szL (ks.drop j) ≤ 1000000000 ∧ Hid ((preL ks k b d 0).foldl stepF S = (preL (ks.drop j) k b d j).foldl stepF S1) ∧ Hid (IA wx wx.heap.size A1 S1) ∧ BxT w B (.mk k i nm ls ks) (.int .i64 k) (.int .i64 i) (.string nm) (.slice AL ls.length cl) (.slice AK ks.length ck) wx) (fun _ s7 _ => ks.length - (intOf s7).toNat)
      case atStart => exact ⟨0, _, _, S, Nat.zero_le _, rfl, rfl, hasc1, hl1, Lib.hid rfl, HIA1, B1.out⟩
      case round =>
        obtain ⟨j, A1, cap1, S1, hj, rfl, rfl, hasc2, hl2, HJ, HIA2, hS⟩ := hrel
        have HS := Lib.hid hS
        clear HIA1 B1 hl1 hasc1
        obtain ⟨x0, x1, x2, x3, x4, htm, hbl, hsz, hszw⟩ := hS
        by_cases hjl : j < ks.length
        · rw [TmV] at htm
          obtain ⟨AL', cl', AK', ck', hve, _, _, hks⟩ := htm
          simp only [Value.agg.injEq, Array.mk.injEq, List.cons.injEq, Value.slice.injEq, and_true, true_and] at hve
          obtain ⟨⟨rfl, rfl⟩, rfl, rfl⟩ := hve
          obtain ⟨kb, ko, rfl, hkb, hkc⟩ := hks (by omega)
          obtain ⟨d0, d1, d2, d3, d4, y0, y1, y2, y3, y4, hq⟩ := hkc.at_ (List.getElem?_eq_getElem hjl)
          have HQ := Lib.hid hq
          have HD := Lib.hid (preL_drop (k := k) (b := b) (d := d) hjl)
          have hst := szL_mem (List.getElem_mem hjl)
          have hszq : szT ks[j] ≤ n := by have := HSZ.out; omega
          have HBD := Lib.hid (binI_bind k j)
          have hbp : b + (if 0 < j ∧ j = bindK k then 1 else 0) + n ≤ 1000000000 := by split <;> omega
          have hb1 : (if 0 < j ∧ j = bindK k then 1 else 0 : Nat) ≤ 1 := by split <;> omega
          rw [← List.getElem_cons_drop hjl, szL] at hl2
          generalize hgb : (if 0 < j ∧ j = bindK k then 1 else 0 : Nat) = bb at *
          generalize hgq : ks[j] = q at *
          clear hgb hgq hst hq hkc hks
          have HBe := Lib.hid (fun W => rbelow_any k j W)
          have hfl := foldl_free (preT q (b + bb) (d + 1)) S1 hasc2
          rw [preT_length] at hfl
          go_wp2_with fail
          have HB := Lib.hid (Below.refl wr.drew.heap.size wr.drew)
          have HNX := Lib.hid (show ∀ w9, Below wr.drew.heap.size wr.drew w9 → BxT w B (.mk k i nm ls ks) (.int .i64 k) (.int .i64 i) (.string nm) (.slice AL ls.length cl) (.slice (some ⟨kb, ko, none⟩) ks.length ck) w9 ∧ TmV w9 B q (.agg #[d0, d1, d2, d3, d4]) ∧ IA w9 w9.heap.size A1 S1 ∧ w9.cell? ⟨kb, ko + j * 5, none⟩ = some d0 ∧ w9.cell? ⟨kb, ko + j * 5 + 1, none⟩ = some d1 ∧ w9.cell? ⟨kb, ko + j * 5 + 2, none⟩ = some d2 ∧ w9.cell? ⟨kb, ko + j * 5 + 3, none⟩ = some d3 ∧ w9.cell? ⟨kb, ko + j * 5 + 4, none⟩ = some d4 from fun w9 hb => by
            have hb' : Below wr.heap.size wr w9 := ⟨hb.os, hb.tape, hb.output, hb.size, hb.block⟩
            have hkl' : kb < wr.heap.size := by omega
            exact ⟨HS.out.next hb', HQ.out.below hb' hsz, HIA2.out.next0 hb', (hb'.cell (p := ⟨kb, ko + j * 5, none⟩) hkl').trans y0, (hb'.cell (p := ⟨kb, ko + j * 5 + 1, none⟩) hkl').trans y1, (hb'.cell (p := ⟨kb, ko + j * 5 + 2, none⟩) hkl').trans y2, (hb'.cell (p := ⟨kb, ko + j * 5 + 3, none⟩) hkl').trans y3, (hb'.cell (p := ⟨kb, ko + j * 5 + 4, none⟩) hkl').trans y4⟩)
          obtain ⟨S2, hS2⟩ : ∃ S2, S2 = (preT q (b + bb) (d + 1)).foldl stepF S1 := ⟨_, rfl⟩
          rw [← hS2] at hfl
          have HI := Lib.hid (show ∀ W, TmV W B q (.agg #[d0, d1, d2, d3, d4]) → B ≤ W.heap.size → IA W W.heap.size A1 S1 → Calls Tryd.prog 47 #[.slice A1 S1.length cap1, .agg #[d0, d1, d2, d3, d4], .int .i64 ((b : Int) + (bb : Int))] W (GivesIA S2 W) from fun W hq hBW hia => by
            have h := IH.out q _ (b + bb) (d + 1) B W.heap.size S1 A1 cap1 W hszq hbp (by omega) hasc2 hia (Nat.le_refl _) hq hBW
            rw [Int.natCast_add, ← hS2] at h
            exact h)
          have HRK := Lib.hid (And.intro hbl (And.intro hsz hszw))
          have HS2 := Lib.hid hS2
          clear x1 x2 x3 hS2
          refine wp_region_held_drew (S := fun w' => w'.cell? ⟨w.heap.size, 0, none⟩ = some (.int .i64 k) ∧ w'.cell? ⟨w.heap.size, 4, none⟩ = some (.slice (some ⟨kb, ko, none⟩) ks.length ck) ∧ w'.cell? ⟨kb, ko + j * 5, none⟩ = some d0 ∧ w'.cell? ⟨kb, ko + j * 5 + 1, none⟩ = some d1 ∧ w'.cell? ⟨kb, ko + j * 5 + 2, none⟩ = some d2 ∧ w'.cell? ⟨kb, ko + j * 5 + 3, none⟩ = some d3 ∧ w'.cell? ⟨kb, ko + j * 5 + 4, none⟩ = some d4) (by kernel_rfl) (⟨(HNX.out _ HB.out).1.x0, (HNX.out _ HB.out).1.x4, (HNX.out _ HB.out).2.2.2⟩) ?_
          intro hS
          refine wpAnyH_take (i := 0) (oi := { dst := some 30, op := Op.move (Operand.tmp 0), type := 39, pos := "ref.go:197", after := #[], guard := none }) (v := .slice A1 S1.length cap1) rfl (by kernel_rfl) (by kernel_rfl) (by kernel_rfl) (fun _ _ _ h => h) (Or.inl ⟨by rfl, ?_⟩) hS ?_
          · intro w9 hSw
            obtain ⟨s0, s1, s2, s3, s4, s5, s6⟩ := hSw
            go_simp
          simp only [Act.put, List.setIfInBounds_toArray, List.set_cons_zero, List.set_cons_succ]
          refine wpAnyH_take (i := 1) (oi := { dst := some 31, op := Op.fieldAddr 27 (Operand.tmp 4) 4, type := 0, pos := "ref.go:197", after := #[], guard := none }) (v := .pointer (some ⟨w.heap.size, 4, none⟩)) rfl (by kernel_rfl) (by kernel_rfl) (by kernel_rfl) (fun _ _ _ h => h) (Or.inl ⟨by rfl, ?_⟩) hS ?_
          · intro w9 hSw
            obtain ⟨s0, s1, s2, s3, s4, s5, s6⟩ := hSw
            go_simp
          simp only [Act.put, List.setIfInBounds_toArray, List.set_cons_zero, List.set_cons_succ]
          refine wpAnyH_take (i := 2) (oi := { dst := some 32, op := Op.load 25 (Operand.tmp 31), type := 25, pos := "ref.go:197", after := #[{ on := 1, ground := Ground.data }], guard := none }) (v := .slice (some ⟨kb, ko, none⟩) ks.length ck) rfl (by kernel_rfl) (by kernel_rfl) (by kernel_rfl) (fun _ _ _ h => h) (Or.inl ⟨by rfl, ?_⟩) hS ?_
          · intro w9 hSw
            obtain ⟨s0, s1, s2, s3, s4, s5, s6⟩ := hSw
            go_simp
          simp only [Act.put, List.setIfInBounds_toArray, List.set_cons_zero, List.set_cons_succ]
          refine wpAnyH_take (i := 3) (oi := { dst := some 33, op := Op.move (Operand.tmp 7), type := 3, pos := "ref.go:197", after := #[], guard := none }) (v := .int .i64 j) rfl (by kernel_rfl) (by kernel_rfl) (by kernel_rfl) (fun _ _ _ h => h) (Or.inl ⟨by rfl, ?_⟩) hS ?_
          · intro w9 hSw
            obtain ⟨s0, s1, s2, s3, s4, s5, s6⟩ := hSw
            go_simp
          simp only [Act.put, List.setIfInBounds_toArray, List.set_cons_zero, List.set_cons_succ]
          refine wpAnyH_take (i := 4) (oi := { dst := some 34, op := Op.indexAddr 25 (Operand.tmp 32) (Operand.tmp 33), type := 0, pos := "ref.go:197", after := #[{ on := 2, ground := Ground.data }, { on := 3, ground := Ground.data }], guard := none }) (v := .pointer (some ⟨kb, ko + j * 5, none⟩)) rfl (by kernel_rfl) (by kernel_rfl) (by kernel_rfl) (fun _ _ _ h => h) (Or.inl ⟨by rfl, ?_⟩) hS ?_
          · intro w9 hSw
            obtain ⟨s0, s1, s2, s3, s4, s5, s6⟩ := hSw
            go_simp
          simp only [Act.put, List.setIfInBounds_toArray, List.set_cons_zero, List.set_cons_succ]
          refine wpAnyH_take (i := 5) (oi := { dst := some 35, op := Op.load 27 (Operand.tmp 34), type := 27, pos := "ref.go:197", after := #[{ on := 4, ground := Ground.data }], guard := none }) (v := .agg #[d0, d1, d2, d3, d4]) rfl (by kernel_rfl) (by kernel_rfl) (by kernel_rfl) (fun _ _ _ h => h) (Or.inl ⟨by rfl, ?_⟩) hS ?_
          · intro w9 hSw
            obtain ⟨s0, s1, s2, s3, s4, s5, s6⟩ := hSw
            go_simp
          simp only [Act.put, List.setIfInBounds_toArray, List.set_cons_zero, List.set_cons_succ]
          refine wpAnyH_take (i := 6) (oi := { dst := some 36, op := Op.move (Operand.tmp 2), type := 3, pos := "ref.go:197", after := #[], guard := none }) (v := .int .i64 b) rfl (by kernel_rfl) (by kernel_rfl) (by kernel_rfl) (fun _ _ _ h => h) (Or.inl ⟨by rfl, ?_⟩) hS ?_
          · intro w9 hSw
            obtain ⟨s0, s1, s2, s3, s4, s5, s6⟩ := hSw
            go_simp
          simp only [Act.put, List.setIfInBounds_toArray, List.set_cons_zero, List.set_cons_succ]
          refine wpAnyH_take (i := 7) (oi := { dst := some 37, op := Op.fieldAddr 27 (Operand.tmp 4) 0, type := 0, pos := "ref.go:197", after := #[], guard := none }) (v := .pointer (some ⟨w.heap.size, 0, none⟩)) rfl (by kernel_rfl) (by kernel_rfl) (by kernel_rfl) (fun _ _ _ h => h) (Or.inl ⟨by rfl, ?_⟩) hS ?_
          · intro w9 hSw
            obtain ⟨s0, s1, s2, s3, s4, s5, s6⟩ := hSw
            go_simp
          simp only [Act.put, List.setIfInBounds_toArray, List.set_cons_zero, List.set_cons_succ]
          refine wpAnyH_take (i := 8) (oi := { dst := some 38, op := Op.load 3 (Operand.tmp 37), type := 3, pos := "ref.go:197", after := #[{ on := 7, ground := Ground.data }], guard := none }) (v := .int .i64 k) rfl (by kernel_rfl) (by kernel_rfl) (by kernel_rfl) (fun _ _ _ h => h) (Or.inl ⟨by rfl, ?_⟩) hS ?_
          · intro w9 hSw
            obtain ⟨s0, s1, s2, s3, s4, s5, s6⟩ := hSw
            go_simp
          simp only [Act.put, List.setIfInBounds_toArray, List.set_cons_zero, List.set_cons_succ]
          refine wpAnyH_take (i := 9) (oi := { dst := some 39, op := Op.move (Operand.tmp 7), type := 3, pos := "ref.go:197", after := #[], guard := none }) (v := .int .i64 j) rfl (by kernel_rfl) (by kernel_rfl) (by kernel_rfl) (fun _ _ _ h => h) (Or.inl ⟨by rfl, ?_⟩) hS ?_
          · intro w9 hSw
            obtain ⟨s0, s1, s2, s3, s4, s5, s6⟩ := hSw
            go_simp
          simp only [Act.put, List.setIfInBounds_toArray, List.set_cons_zero, List.set_cons_succ]
          refine wpAnyH_ready (rs := [10]) (by kernel_rfl) (List.cons_ne_nil _ _) ?_
          refine AllReadyH.cons (o := { dst := some 40, op := Op.call { callee := Callee.value (Operand.func 58), args := #[Operand.tmp 38, Operand.tmp 39], argTypes := #[3, 3] }, type := 3, pos := "ref.go:197", after := #[{ on := 8, ground := Ground.data }, { on := 9, ground := Ground.data }], guard := none }) rfl (fun K hK => ?_) AllReadyH.nil
          go_simp
          go_at_call 58
          refine (HBe.out _).mono ?_
          rw [HBD.out]
          rintro e w7 ⟨rfl, hw7⟩
          have HB := Lib.hid (show Below wr.drew.heap.size wr.drew w7 from by rw [hw7]; exact HB.out)
          clear hw7
          try go_simp
          refine hK _ _ (⟨(HNX.out _ HB.out).1.x0, (HNX.out _ HB.out).1.x4, (HNX.out _ HB.out).2.2.2⟩) ?_
          clear hS
          intro hS
          clear hK K
          refine wpAnyH_take (i := 11) (oi := { dst := some 41, op := Op.binOp BinOp.add 3 (Operand.tmp 36) (Operand.tmp 40) 3, type := 3, pos := "ref.go:197", after := #[{ on := 6, ground := Ground.data }, { on := 10, ground := Ground.data }], guard := none }) (v := .int .i64 ((b : Int) + (bb : Int))) rfl (by kernel_rfl) (by kernel_rfl) (by kernel_rfl) (fun _ _ _ h => h) (Or.inl ⟨by rfl, ?_⟩) hS ?_
          · intro w9 hSw
            obtain ⟨s0, s1, s2, s3, s4, s5, s6⟩ := hSw
            go_simp
            rw [IntKind.wrap_i64]
            omega
          simp only [Act.put, List.setIfInBounds_toArray, List.set_cons_zero, List.set_cons_succ]
          refine wpAnyH_ready (rs := [12]) (by kernel_rfl) (List.cons_ne_nil _ _) ?_
          refine AllReadyH.cons (o := { dst := some 42, op := Op.call { callee := Callee.value (Operand.func 47), args := #[Operand.tmp 30, Operand.tmp 35, Operand.tmp 41], argTypes := #[39, 27, 3] }, type := 39, pos := "ref.go:197", after := #[{ on := 0, ground := Ground.data }, { on := 5, ground := Ground.data }, { on := 11, ground := Ground.data }, { on := 10, ground := Ground.chain }], guard := none }) rfl (fun K hK => ?_) AllReadyH.nil
          go_simp
          go_at_call 47
          refine (HI.out _ (HNX.out _ HB.out).2.1 (HNX.out _ HB.out).1.size (HNX.out _ HB.out).2.2.1).mono ?_
          rintro e w8 ⟨A2, cap2, rfl, hia2, hb7⟩
          have HB := Lib.hid (HB.out.trans (hb7.mono HB.out.size))
          have HI2 := Lib.hid hia2
          clear hb7 hia2
          try go_simp
          refine hK _ _ (⟨(HNX.out _ HB.out).1.x0, (HNX.out _ HB.out).1.x4, (HNX.out _ HB.out).2.2.2⟩) ?_
          clear hS
          intro hS
          clear hK K
          refine wpAnyH_take (i := 13) (oi := { dst := some 0, op := Op.assign (Operand.tmp 42), type := 39, pos := "ref.go:197", after := #[{ on := 12, ground := Ground.data }, { on := 12, ground := Ground.chain }, { on := 0, ground := Ground.phase }, { on := 1, ground := Ground.phase }, { on := 2, ground := Ground.phase }, { on := 3, ground := Ground.phase }, { on := 4, ground := Ground.phase }, { on := 5, ground := Ground.phase }, { on := 6, ground := Ground.phase }, { on := 7, ground := Ground.phase }, { on := 8, ground := Ground.phase }, { on := 9, ground := Ground.phase }, { on := 10, ground := Ground.phase }, { on := 11, ground := Ground.phase }, { on := 12, ground := Ground.phase }], guard := none }) (v := .slice A2 S2.length cap2) rfl (by kernel_rfl) (by kernel_rfl) (by kernel_rfl) (fun _ _ _ h => h) (Or.inl ⟨by rfl, ?_⟩) hS ?_
          · intro w9 hSw
            obtain ⟨s0, s1, s2, s3, s4, s5, s6⟩ := hSw
            go_simp
          simp only [Act.put, List.setIfInBounds_toArray, List.set_cons_zero]
          refine wpAnyH_done (by kernel_rfl) ?_ _
          obtain ⟨hHS, hbx⟩ : Hid (BxT w B (.mk k i nm ls ks) (.int .i64 k) (.int .i64 i) (.string nm) (.slice AL ls.length cl) (.slice (some ⟨kb, ko, none⟩) ks.length ck) w8) ∧ True := ⟨Lib.hid (HNX.out _ HB.out).1, trivial⟩
          have HZ : Hid ((preL ks k b d 0).foldl stepF S = (preL (ks.drop (j + 1)) k b d (j + 1)).foldl stepF S2) := Lib.hid (by rw [HJ.out, HD.out, List.foldl_append, HS2.out])
          clear hS
          go_wp2_with fail
          go_roundw
          case rel => exact ⟨j + 1, A2, cap2, S2, hjl, rfl, by go_num, hfl.1, by omega, HZ, HI2, hHS.out⟩
          case measure => simp [intOf]; omega
        · have HC : Hid ((preL ks k b d 0).foldl stepF S = S1) := Lib.hid (by rw [HJ.out, List.drop_of_length_le (by omega), preL]; rfl)
          have hjn : ¬ j < ks.length := hjl
          have hji : decide ((j : Int) < (ks.length : Int)) = false := by rw [decide_eq_false_iff_not]; omega
          go_wp2_with fail
          go_ret
          exact ⟨A1, cap1, by rw [HS1.out, HC.out]; rfl, by rw [HS1.out, HC.out]; exact HIA2.out, hbl⟩
end Go.Proofs.YtbiifkpelldciaaDoor
