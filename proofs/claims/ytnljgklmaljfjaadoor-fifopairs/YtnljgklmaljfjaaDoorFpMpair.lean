/-
  culvertlaw03.made, and FifoPairs' question
-/
import Derived.Test.YtnljgklmaljfjaaDoorFpRpair
import Derived.Test.YtnljgklmaljfjaaDoorShelf
namespace Go.Proofs.YtnljgklmaljfjaaDoor.Fpair
open Go.RowKit Go.Sort

theorem succ_of_lt {n m : Nat} (h : n < m) : ∃ d, m = d + 1 := ⟨m - 1, by omega⟩
theorem below_growK (w : World) (k : Nat) (os : Array Obj) : Below w.heap.size w (grow (w.drewN k) os) := by
  refine ⟨rfl, rfl, rfl, ?_, fun b hb => ?_⟩
  · simp [grow]
  · show (w.heap ++ os)[b]? = w.heap[b]?
    exact Array.getElem?_append_left hb

theorem nDigits_le : ∀ (d u : Nat), u < 10 ^ d → 0 < d → (Lib.decDigits u).length ≤ d := by
  intro d
  induction d with
  | zero => intro u _ h; omega
  | succ d ih =>
    intro u hu _
    rw [Lib.decDigits]
    split
    · simp
    · rw [List.length_append, List.length_singleton]
      have h0 : 0 < d := by
        rcases Nat.eq_zero_or_pos d with e | e
        · subst e; omega
        · exact e
      have := ih (u / 10) (by rw [Nat.pow_succ] at hu; omega) h0
      omega
theorem itoa_len (k : Int) (h : -9223372036854775808 ≤ k ∧ k ≤ 9223372036854775807) : (Lib.itoa k).length ≤ 21 := by
  have h1 := h.1
  have h2 := h.2
  unfold Lib.itoa
  split
  · have h3 : k.natAbs ≤ 9223372036854775808 := by omega
    have := nDigits_le 20 k.natAbs (Nat.lt_of_le_of_lt h3 (by decide)) (by decide)
    rw [List.length_cons]; omega
  · have h3 : k.toNat ≤ 9223372036854775807 := by omega
    have := nDigits_le 20 k.toNat (Nat.lt_of_le_of_lt h3 (by decide)) (by decide)
    omega

def PowT (w : World) : Prop := Lib.TabIs Tryd.prog w "internal/strconv.uint64pow10" .u64 Lib.pow10Tab
theorem powT_later {w w' : World} (h : PowT w) (hb : Below w.heap.size w w') : PowT w' := by
  have hg : Tryd.prog.globalNamed "internal/strconv.uint64pow10" = some 42 := by kernel_rfl
  unfold PowT Lib.TabIs at h ⊢
  rw [← h]
  simp only [World.var?, hg, Option.bind_some]
  rw [hb.block 42 ?_]
  have hc := World.var?_cell hg h 0
  have : w.cell? ⟨42, 0, none⟩ = some (.int .u64 1) := by rw [hc]; rfl
  exact World.block_lt_of_cell? w _ this
theorem itoaP {w : World} (hp : PowT w) (n : Int) (hn : -9223372036854775808 ≤ n ∧ n ≤ 9223372036854775807) : Calls Tryd.prog 33 #[.int .i64 n] w fun e w' => e = .returned (.string ⟨(Lib.itoa n).toArray⟩) ∧ Aside (Keeps Nowhere w w') := by
  refine (Tryd.strconv_Itoa n hn.1 hn.2 w hp).mono ?_
  rintro e w' ⟨rfl, k, os, rfl⟩
  exact ⟨rfl, ⟨Keeps.ofBelow (below_growK w k os)⟩⟩
theorem txt_of (n : Int) (hn : -9223372036854775808 ≤ n ∧ n ≤ 9223372036854775807) : ∃ ib : ByteArray, (⟨(Lib.itoa n).toArray⟩ : ByteArray) = ib ∧ txt n = ⟨#[35]⟩ ++ ib ∧ ib.size ≤ 21 := by
  have h := itoa_len n hn
  have e : (⟨#[35]⟩ : ByteArray) ++ ⟨(Lib.itoa n).toArray⟩ = ⟨(35 :: Lib.itoa n).toArray⟩ := by
    apply ByteArray.ext
    simp
  exact ⟨_, rfl, by rw [e]; rfl, by simpa [ByteArray.size] using h⟩
theorem made_ok {w : World} (hp : PowT w) (n : Int) (hn : -9223372036854775808 ≤ n ∧ n ≤ 9223372036854775807) : Calls Tryd.prog 11 #[.int .i64 n] w fun e w' => e = .returned (.agg #[.string (txt n), .int .i64 n]) ∧ Aside (Keeps Nowhere w w') := by
  obtain ⟨ib, hib, ht, hl⟩ := txt_of n hn
  have hl' : ¬ 9223372036854775807 < 1 + ib.size := by omega
  obtain ⟨W0, hW0⟩ : ∃ W0, W0 = w.alloc (.cells #[.string ⟨#[]⟩, .int .i64 0] 32) := ⟨_, rfl⟩
  have K0 : Aside (Keeps Nowhere w W0) := ⟨by rw [hW0]; exact (Keeps.refl _ _).alloc _⟩
  have C0 : Aside (Cells W0 w.heap.size 32 [.string ⟨#[]⟩, .int .i64 0]) := ⟨by rw [hW0]; exact Cells.new w _ _⟩
  have IT := Aside.mk (itoaP (w := W0) (powT_later hp K0.it.bel) n hn)
  rw [hib] at IT
  rw [ht]
  go_enter Tryd.func11, Tryd.ntmps11
  go_upto_region 1 with fail
  rw [← hW0]
  clear hW0
  go_wp2_with fail
  refine IT.it.mono ?_
  rintro e w1 ⟨rfl, K1⟩
  have cl := C0.it.later K1.it (fun x => x)
  have z0 : w1.cell? ⟨w.heap.size, 0, none⟩ = some (.string ⟨#[]⟩) := by rw [cl.cell]; rfl
  have z1 : w1.cell? ⟨w.heap.size, 1, none⟩ = some (.int .i64 0) := by rw [cl.cell]; rfl
  have y0 := cl.frozen 0
  have y1 := cl.frozen 1
  have q0 : (w1.setCell ⟨w.heap.size, 0, none⟩ (.string (⟨#[35]⟩ ++ ib))).cell? ⟨w.heap.size, 0, none⟩ = some (.string (⟨#[35]⟩ ++ ib)) := by rw [(cl.setCell 0 _).cell]; rfl
  have q1 : ((w1.setCell ⟨w.heap.size, 0, none⟩ (.string (⟨#[35]⟩ ++ ib))).setCell ⟨w.heap.size, 1, none⟩ (.int .i64 n)).cell? ⟨w.heap.size, 1, none⟩ = some (.int .i64 n) := by rw [((cl.setCell 0 _).setCell 1 _).cell]; rfl
  clear cl
  go_wp2
  refine bodyPost_ret (v := .agg #[.string (⟨#[35]⟩ ++ ib), .int .i64 n]) (by simp [results, Tryd.results11, go_sem, q0, q1]) rfl ?_
  exact ⟨rfl, ⟨((K0.it.trans K1.it).setCell _ _ (fun h => absurd h (Nat.lt_irrefl _))).setCell _ _ (fun h => absurd h (Nat.lt_irrefl _))⟩⟩
/-- FifoPairs' question: is the thing's number among those that o names? -/
theorem asks_ok {w : World} (ob : Nat) (ws : Value) (ns : List Int) (k0 k1 k2 : Value) (n : Int) (hc : Cells w ob 41 [k0, k1, k2, ws]) (hr : ReadsOff Nowhere w ws (iv ns)) (hn : ns.length ≤ maxLen) :
    Calls Tryd.prog 15 #[.agg #[.string (txt n), .int .i64 n], .pointer (some ⟨ob, 0, none⟩)] w fun e w' => e = .returned (.bool (decide (n ∈ ns))) ∧ Aside (Keeps Nowhere w w') := by
  obtain ⟨W0, hW0⟩ : ∃ W0, W0 = w.alloc (.cells #[.string (txt n), .int .i64 n] 32) := ⟨_, rfl⟩
  have K0 : Aside (Keeps Nowhere w W0) := ⟨by rw [hW0]; exact (Keeps.refl _ _).alloc _⟩
  have C0 : Aside (Cells W0 w.heap.size 32 [.string (txt n), .int .i64 n]) := ⟨by rw [hW0]; exact Cells.new w _ _⟩
  have C1 := hc.later K0.it (fun x => x)
  have b1 : W0.cell? ⟨w.heap.size, 1, none⟩ = some (.int .i64 n) := by rw [C0.it.cell]; rfl
  have b3 : W0.cell? ⟨ob, 3, none⟩ = some ws := by rw [C1.cell]; rfl
  have IN := Aside.mk (refIn_ok W0 ws ns n (hr.below K0.it.bel) hn)
  clear hc C1 hr
  go_enter Tryd.func15, Tryd.ntmps15
  go_upto_region 1 with fail
  rw [← hW0]
  clear hW0
  go_wp2_with (go_at_call 16; refine IN.it.mono ?_; rintro e w' ⟨rfl, rfl⟩)
  go_ret
  exact ⟨rfl, K0⟩
end Go.Proofs.YtnljgklmaljfjaaDoor.Fpair
