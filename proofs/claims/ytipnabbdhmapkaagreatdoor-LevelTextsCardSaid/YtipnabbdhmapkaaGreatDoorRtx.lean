/- Text of the reference. -/
import Derived.Test.YtipnabbdhmapkaaGreatDoorDcm
import Derived.Test.YtipnabbdhmapkaaGreatDoorTxu
import Derived.Test.YtipnabbdhmapkaaGreatDoorRef
import Derived.Deep.DeepCutAuto
namespace Go.Proofs.YtipnabbdhmapkaaGreatDoor
open Go.RowKit

theorem decI_any (n : Int) (h0 : 0 ≤ n) (h1 : n ≤ 1000000) (w : World) : Calls Tryz.prog 68 #[.int .i64 n] w fun e w' => e = .returned (.string ⟨(Lib.itoa n).toArray⟩) ∧ Below w.heap.size w w' := by
  have h := decimal_any n.toNat w (by omega)
  rw [show ((n.toNat : Nat) : Int) = n by omega] at h
  rw [show Lib.itoa n = Lib.decDigits n.toNat by unfold Lib.itoa; rw [if_neg (by omega)]]
  exact h

set_option maxHeartbeats 1000000 in
theorem rpart_any (p : ByteArray) (n pl : Int) (h0 : 0 ≤ n) (h1 : n ≤ 65536) (g0 : 0 ≤ pl) (g1 : pl ≤ 100) (w : World) (hs : p.size ≤ 10) :
    Calls Tryz.prog 69 #[.string p, .int .i64 n, .int .i64 pl] w fun e w' => e = .returned (.string (varT p n pl)) ∧ Below w.heap.size w w' := by
  have l1 : (Lib.itoa n).length ≤ 21 := Lib.itoa_length_le n (by omega) (by omega)
  have l2 : (Lib.itoa pl).length ≤ 21 := Lib.itoa_length_le pl (by omega) (by omega)
  by_cases hz : pl = 0
  · subst hz
    go_enter Tryz.func69, Tryz.ntmps69
    go_wp2_with fail
    refine (decI_any n h0 (by omega) w).mono ?_
    rintro e w1 ⟨rfl, hb⟩
    go_wp2_with fail
    go_ret
    exact ⟨by simp [varT], hb⟩
  · have hd : 0 < pl := by omega
    have HZ := Lib.hid hz
    clear hz
    go_enter Tryz.func69, Tryz.ntmps69
    go_wp2_with fail
    refine (decI_any n h0 (by omega) w).mono ?_
    rintro e w1 ⟨rfl, hb⟩
    go_wp2_with fail
    refine (decI_any pl g0 (by omega) w1).mono ?_
    rintro e w2 ⟨rfl, hb2⟩
    go_wp2_with fail
    go_ret
    exact ⟨by rw [varT, if_neg HZ.out]; rfl, hb.trans (hb2.mono hb.size)⟩

/-- The texts of the metavariables from place k on, the last first. -/
def tqK (vs : List (Int × Int)) (k : Nat) : List ByteArray := tsQ (vs.drop k).reverse
theorem tqK_end (vs : List (Int × Int)) : tqK vs vs.length = [] := by simp [tqK, tsQ]
theorem tqK_zero (vs : List (Int × Int)) : tqK vs 0 = tsQ vs.reverse := by simp [tqK]
theorem tqK_len (vs : List (Int × Int)) (k : Nat) : (tqK vs k).length ≤ vs.length := by
  unfold tqK
  refine Nat.le_trans (tsQ_len _) ?_
  simp
theorem tqK_step {vs : List (Int × Int)} {k : Nat} {x y : Int} (hg : vs[k]? = some (x, y)) : tqK vs k = if x < 0 then tqK vs (k + 1) ++ [varT ⟨#[63]⟩ (-1 - x) y] else tqK vs (k + 1) := by
  obtain ⟨hk, he⟩ := List.getElem?_eq_some_iff.1 hg
  unfold tqK
  rw [List.drop_eq_getElem_cons hk, he, List.reverse_cons, tsQ_append]
  by_cases h : x < 0 <;> simp [tsQ, h]
/-- The text of the maximum, as far as the first k parts. -/
def jacc (ts : List ByteArray) (k : Nat) : ByteArray := ⟨#[109, 97, 120, 40]⟩ ++ ⟨(Lib.join ((ts.take k).map (·.data.toList)) [44, 32]).toArray⟩
theorem jacc_zero (ts : List ByteArray) : jacc ts 0 = ⟨#[109, 97, 120, 40]⟩ := by
  apply ByteArray.ext
  simp [jacc, Lib.join_nil]
theorem jacc_step {ts : List ByteArray} {k : Nat} {t : ByteArray} (h : ts[k]? = some t) : jacc ts (k + 1) = (if 0 < k then jacc ts k ++ ⟨#[44, 32]⟩ else jacc ts k) ++ t := by
  unfold jacc
  rw [List.take_add_one, h, Option.toList_some, List.map_append]
  apply ByteArray.ext
  apply Array.toList_inj.1
  cases k with
  | zero => simp [Lib.join_nil, Lib.join_one]
  | succ k =>
    obtain ⟨hk, _⟩ := List.getElem?_eq_some_iff.1 h
    cases ts with
    | nil => simp at hk
    | cons a r =>
      simp [Lib.join_cons, Lib.joinTail]
theorem jacc_end {ts : List ByteArray} (h : ts.length ≠ 1) : jacc ts ts.length ++ ⟨#[41]⟩ = txtB ts := by
  unfold jacc txtB
  rw [List.take_length]
  match ts, h with
  | [], _ => rfl
  | [t], h => simp at h
  | _ :: _ :: _, _ => rfl
theorem txtB_one {ts : List ByteArray} (h : ts.length = 1) {t : ByteArray} (h0 : ts[0]? = some t) : txtB ts = t := by
  match ts, h, h0 with
  | [u], _, h0 => simpa [txtB] using h0
theorem jacc_size {ts : List ByteArray} (h : ∀ t ∈ ts, t.size ≤ 46) (hl : ts.length ≤ 200000) (k : Nat) : (jacc ts k).size ≤ 10000004 := by
  have := join_le (ts.take k) (fun t ht => h t (List.mem_of_mem_take ht)) (by simp; omega)
  show (⟨#[109, 97, 120, 40]⟩ ++ ⟨(Lib.join ((ts.take k).map (·.data.toList)) [44, 32]).toArray⟩ : ByteArray).size ≤ _
  rw [ByteArray.size_append]
  show 4 + (Lib.join ((ts.take k).map (·.data.toList)) [44, 32]).toArray.size ≤ _
  simp only [List.size_toArray]
  omega
theorem OwnS.below {w w' : World} {base : Nat} {v : Value} {ts : List ByteArray} (h : OwnS w base v ts) (hb : Below w.heap.size w w') : OwnS w' base v ts :=
  World.ownsRow.kept h (row := none) ⟨hb.os, hb.tape, hb.output, hb.size, fun i hi _ => hb.block i hi⟩ (by cases v.ownBlock <;> simp)
theorem OwnS.slice {w : World} {base : Nat} {v : Value} {ts : List ByteArray} (h : OwnS w base v ts) : ∃ A c, v = .slice A ts.length c := by
  rcases h.2 with ⟨rfl, h0⟩ | ⟨g, cap, cur, rfl, _⟩
  · exact ⟨none, 0, by rw [h0]⟩
  · exact ⟨_, _, rfl⟩
theorem OwnS.at_ {w : World} {base n c : Nat} {A : Option Addr} {ts : List ByteArray} (h : OwnS w base (.slice A n c) ts) {j : Nat} {t : ByteArray} (hj : ts[j]? = some t) : ∃ g, A = some ⟨g, 0, none⟩ ∧ g < w.heap.size ∧ w.cell? ⟨g, j, none⟩ = some (.string t) := by
  rcases h.2 with ⟨_, h0⟩ | ⟨g, cap, cur, hv, _, hg, _⟩
  · obtain ⟨h1, _⟩ := List.getElem?_eq_some_iff.1 hj; omega
  · injection hv with hA _ _
    subst hA
    have hc := World.ownsRow.cells h (g := g) rfl j (.string t) (by rw [List.getElem?_map, hj]; rfl)
    rw [Addr.add_lit, Nat.zero_add] at hc
    exact ⟨g, rfl, (Array.getElem?_eq_some_iff.1 hg).1, hc⟩

set_option maxRecDepth 100000 in
set_option maxHeartbeats 1000000 in
theorem rtext_bad (c : Int) (A : Option Addr) (cap : Nat) (vs : List (Int × Int)) (B : Nat) (w : World) (hv : VA w B A vs) (hB : B ≤ w.heap.size) (hvd : vldB c vs = false) :
    Calls Tryz.prog 41 #[.agg #[.int .i64 c, .slice A vs.length cap]] w fun e w' => e = .returned (.tuple #[.string ⟨#[]⟩, .int .i64 3]) ∧ Below w.heap.size w w' := by
  go_enter Tryz.func41, Tryz.ntmps41
  go_wp2_with fail
  refine (rvalid_any c A cap vs B _ (hv.alloc hB _) (by simp; omega)).mono ?_
  rw [hvd]
  rintro e w1 ⟨rfl, hb1⟩
  have hf1 : Below w.heap.size w w1 := ((Below.refl _ _).alloc (Nat.le_refl _) _).trans (hb1.mono (by simp))
  have HF1 := Lib.hid hf1
  clear hb1 hf1
  go_wp2_with fail
  exact bodyPost_ret (v := .tuple #[.string ⟨#[]⟩, .int .i64 3]) (by simp [results, Tryz.results41, go_sem]) rfl ⟨rfl, HF1.out⟩

set_option maxRecDepth 100000 in
set_option maxHeartbeats 1000000 in
theorem text_bad (c : Int) (A : Option Addr) (cap : Nat) (vs : List (Int × Int)) (w : World) (hv : VA w w.heap.size A vs) (hvd : vldB c vs = false) :
    Calls Tryz.prog 40 #[.agg #[.int .i64 c, .slice A vs.length cap]] w fun e w' => e = .returned (.tuple #[.string ⟨#[]⟩, .int .i64 3]) ∧ Below w.heap.size w w' := by
  go_enter Tryz.func40, Tryz.ntmps40
  go_wp2_with fail
  refine (valid_any c A cap vs w.heap.size _ (hv.alloc (Nat.le_refl _) _) (by simp)).mono ?_
  rw [hvd]
  rintro e w1 ⟨rfl, hb1⟩
  have hf1 : Below w.heap.size w w1 := ((Below.refl _ _).alloc (Nat.le_refl _) _).trans (hb1.mono (by simp))
  have HF1 := Lib.hid hf1
  clear hb1 hf1
  go_wp2_with fail
  exact bodyPost_ret (v := .tuple #[.string ⟨#[]⟩, .int .i64 3]) (by simp [results, Tryz.results40, go_sem]) rfl ⟨rfl, HF1.out⟩
end Go.Proofs.YtipnabbdhmapkaaGreatDoor
