/-
  The two texts are one.
-/
import Derived.Test.YtfpdllckpcjgdaaDoorTextC
import Derived.Test.YtfpdllckpcjgdaaDoorTextE
namespace Go.Proofs.YtfpdllckpcjgdaaDoor
open Go.RowKit Go.Lib

theorem and_high (n : Nat) (h : n < 65536) : n &&& 65520 = n / 16 * 16 := by
  have e1 : n / 16 * 16 = (n >>> 4) <<< 4 := by rw [Nat.shiftLeft_eq, Nat.shiftRight_eq_div_pow]
  have e2 : (65520 : Nat) = (2 ^ 12 - 1) <<< 4 := by decide
  rw [e1, e2]
  apply Nat.eq_of_testBit_eq
  intro i
  rw [Nat.testBit_and, Nat.testBit_shiftLeft, Nat.testBit_shiftLeft, Nat.testBit_two_pow_sub_one, Nat.testBit_shiftRight]
  by_cases h4 : 4 ≤ i
  · have e3 : 4 + (i - 4) = i := by omega
    rw [e3]
    by_cases h16 : i < 16
    · simp [h4, show i - 4 < 12 by omega]
    · have : n.testBit i = false := Nat.testBit_lt_two_pow (Nat.lt_of_lt_of_le h (show 2 ^ 16 ≤ 2 ^ i from Nat.pow_le_pow_right (by decide) (by omega)))
      simp [this]
  · simp [h4]
theorem andNot15 (f : Int) (h0 : 0 ≤ f) (h1 : f ≤ 65535) : bits .andNot .u16 f 15 = f / 16 * 16 := by
  rw [u16_andNot f 15 h0 (by omega) (by decide) (by decide)]
  obtain ⟨u, rfl⟩ := Int.eq_ofNat_of_zero_le h0
  have := and_high u (by omega)
  have e : (65535 - (15 : Int).toNat) = 65520 := by decide
  rw [e, Int.toNat_natCast, this]
  omega
theorem jt_append (sep : List UInt8) (a b : List (List UInt8)) : joinTail sep (a ++ b) = joinTail sep a ++ joinTail sep b := by simp [joinTail]
theorem join_append (x : List UInt8) (r b : List (List UInt8)) (sep : List UInt8) : join ((x :: r) ++ b) sep = join (x :: r) sep ++ joinTail sep b := by
  rw [List.cons_append, join_cons, join_cons, jt_append, List.append_assoc]
def bs (l : List ByteArray) : List (List UInt8) := l.map (·.data.toList)
theorem bs_append (a b : List ByteArray) : bs (a ++ b) = bs a ++ bs b := by simp [bs]
theorem dg_bytes (n : Int) : (dg n).data.toList = decDigits n.toNat := by simp [dg]
theorem ty_join (t : Int) : ∃ x r, bs (tyW t) = x :: r ∧ join (bs (tyW t)) [32] = kiB t := by
  unfold tyW kiB
  split
  · exact ⟨_, [], rfl, by simp [bs, join_one]⟩
  · exact ⟨_, _, rfl, by simp [bs, join_cons, joinTail, dg_bytes]⟩
theorem ver_join (v : Int) : joinTail [32] (bs (verW v)) = verB v := by
  unfold verW verB
  split
  · rfl
  · simp [bs, joinTail, dg_bytes]
theorem fl_join (f : Int) : joinTail [32] (bs (flW f 4)) = flsB f := by
  simp only [flW, bs_append, jt_append, flsB]
  have key : ∀ (b : Int) (i : Nat) (wd : List UInt8), joinTail [32] (bs (if bits .and .u16 f b != 0 then [str wd] else [])) = flB f b wd := by
    intro b i wd
    by_cases h : bits .and .u16 f b = 0 <;> simp [flB, h, bs, joinTail]
  have e0 : joinTail [32] (bs []) = [] := rfl
  rw [e0, List.nil_append]
  have k0 := key 1 0 [115, 121, 110]
  have k1 := key 2 0 [97, 99, 107]
  have k2 := key 4 0 [102, 105, 110]
  have k3 := key 8 0 [114, 115, 116]
  rw [← k0, ← k1, ← k2, ← k3]
  rfl
theorem fur_join (f : Int) (h0 : 0 ≤ f) (h1 : f ≤ 65535) : joinTail [32] (bs (fuW f)) = flsB f ++ furB f := by
  unfold fuW
  rw [bs_append, jt_append, fl_join, andNot15 f h0 h1]
  congr 1
  unfold furB
  by_cases h : 15 < f
  · have h2 : (f / 16 * 16 != 0) = true := by
      have : f / 16 * 16 ≠ 0 := by omega
      simpa using this
    rw [if_pos h, if_pos h2]
    simp [bs, joinTail, dg_bytes]
  · have h2 : ¬ (f / 16 * 16 != 0) = true := by
      have : f / 16 * 16 = 0 := by omega
      simp [this]
    rw [if_neg h, if_neg h2]
    rfl
theorem text_eq (v t f s l : Int) (h0 : 0 ≤ f) (h1 : f ≤ 65535) : join ((txW v t f s l).map (·.data.toList)) [32] = txB v t f s l := by
  show join (bs (txW v t f s l)) [32] = _
  obtain ⟨x, r, hx, hj⟩ := ty_join t
  unfold txW txB
  rw [bs_append, bs_append, bs_append, List.append_assoc, List.append_assoc, hx, join_append, ← hx, hj, jt_append, jt_append, ver_join, fur_join f h0 h1]
  simp [bs, joinTail, dg_bytes, endB]
theorem txB_len (v t f s l : Int) (hv1 : v ≤ 255) (ht0 : 0 ≤ t) (ht1 : t ≤ 255) (hf1 : f ≤ 65535) (hs1 : s ≤ 4294967295) (hl1 : l ≤ 4294967295) : (txB v t f s l).length ≤ 1000 := by
  have hk := kiB_len t ht0 ht1
  have hdv := dd_len v (by omega)
  have hdf := dd_len (f / 16 * 16) (by omega)
  have hds := dd_len s hs1
  have hdl := dd_len l hl1
  have a1 := flB_len f 1 [115, 121, 110]
  have a2 := flB_len f 2 [97, 99, 107]
  have a3 := flB_len f 4 [102, 105, 110]
  have a4 := flB_len f 8 [114, 115, 116]
  simp only [List.length_cons, List.length_nil] at a1 a2 a3 a4
  have b1 : (verB v).length ≤ 30 := by unfold verB; split <;> simp <;> omega
  have b2 : (furB f).length ≤ 30 := by unfold furB; split <;> simp <;> omega
  simp only [txB, flsB, endB, List.length_append, List.length_cons, List.length_nil]
  omega
/-- Text, in the document's words -/
theorem text_any (v t f s l : Int) (hv0 : 0 ≤ v) (hv1 : v ≤ 255) (ht0 : 0 ≤ t) (ht1 : t ≤ 255) (hf0 : 0 ≤ f) (hf1 : f ≤ 65535) (hs0 : 0 ≤ s) (hs1 : s ≤ 4294967295) (hl0 : 0 ≤ l) (hl1 : l ≤ 4294967295) (w : World) (hw : Words w) :
    Calls Tryd.prog 7 #[hdr v t f s l] w fun e w' => e = .returned (.string (str (txB v t f s l))) ∧ Below w.heap.size w w' := by
  have h := text_walk v t f s l hv0 hv1 ht0 ht1 (by rw [andNot15 f hf0 hf1]; omega) (by rw [andNot15 f hf0 hf1]; omega) hs0 hs1 hl0 hl1 w hw (by rw [text_eq v t f s l hf0 hf1]; have := txB_len v t f s l hv1 ht0 ht1 hf1 hs1 hl1; omega)
  rw [text_eq v t f s l hf0 hf1] at h
  exact h
end Go.Proofs.YtfpdllckpcjgdaaDoor
