/-
  txB is injective.
-/
import Derived.Test.YtfpdllckpcjgdaaDoorTextE
import Derived.Test.YtfpdllckpcjgdaaDoorTextF
import Derived.Test.YtfpdllckpcjgdaaDoorTextI
import Derived.Laws.BitsAllLaws
namespace Go.Proofs.YtfpdllckpcjgdaaDoor
open Go.RowKit

def bitB (f b : Int) : Bool := bits .and .u16 f b != 0
theorem txB_words (v t f s l : Int) (hv : 0 ≤ v) (ht : 0 ≤ t) (hf : 0 ≤ f) : txB v t f s l = Wd.jn (Wd.words t.toNat v.toNat (bitB f 1) (bitB f 2) (bitB f 4) (bitB f 8) (f / 16 * 16).toNat s.toNat l.toNat) := by
  have e1 : ∀ r, kiB t ++ Wd.tl r = Wd.jn (Wd.ty t.toNat ++ r) := by
    intro r
    unfold kiB Wd.ty
    by_cases h : t < 4
    · rw [if_pos h, if_pos (by omega)]; rfl
    · rw [if_neg h, if_neg (by omega)]; simp [Wd.jn, Wd.tl]
  have e2 : verB v = Wd.tl (Wd.ver v.toNat) := by
    unfold verB Wd.ver
    by_cases h : v = 0
    · rw [if_pos h, if_pos (by omega)]; rfl
    · rw [if_neg h, if_neg (by omega)]; simp [Wd.tl]
  have e3 : ∀ (b : Int) (wd : List UInt8), flB f b wd = Wd.tl (Wd.fl (bitB f b) wd) := by
    intro b wd
    unfold flB Wd.fl bitB
    by_cases h : bits .and .u16 f b = 0
    · simp [h, Wd.tl]
    · simp [h, Wd.tl]
  have e4 : furB f = Wd.tl (Wd.fur (f / 16 * 16).toNat) := by
    unfold furB Wd.fur
    by_cases h : 15 < f
    · rw [if_pos h, if_neg (by omega)]; simp [Wd.tl]
    · rw [if_neg h, if_pos (by omega)]; rfl
  have e5 : endB s l = Wd.tl (Wd.fin s.toNat l.toNat) := by simp [endB, Wd.fin, Wd.tl]
  have ta : ∀ a b, Wd.tl (a ++ b) = Wd.tl a ++ Wd.tl b := by intro a b; simp [Wd.tl]
  unfold txB flsB Wd.words
  rw [← e1, ta, ta, ta, e2, e4, e5, e3, e3, e3, e3]
  unfold Wd.fls
  rw [ta, ta, ta]
  simp only [List.append_assoc]
theorem and_u16 (f b : Nat) (hf : f ≤ 65535) (hb : b ≤ 65535) : bits .and .u16 (f : Int) (b : Int) = ((f &&& b : Nat) : Int) := by
  rw [u16_and f b (by omega) (by omega) (by omega) (by omega), Int.toNat_natCast, Int.toNat_natCast]
theorem txB_inj {v t f s l v' t' f' s' l' : Int} (h : txB v t f s l = txB v' t' f' s' l') (hv : 0 ≤ v) (ht : 0 ≤ t) (hf : 0 ≤ f) (hf1 : f ≤ 65535) (hs : 0 ≤ s) (hl : 0 ≤ l) (hv' : 0 ≤ v') (ht' : 0 ≤ t') (hf' : 0 ≤ f') (hf1' : f' ≤ 65535) (hs' : 0 ≤ s') (hl' : 0 ≤ l') : v = v' ∧ t = t' ∧ f = f' ∧ s = s' ∧ l = l' := by
  rw [txB_words v t f s l hv ht hf, txB_words v' t' f' s' l' hv' ht' hf'] at h
  obtain ⟨e1, e2, ⟨b0, b1, b2, b3⟩, e3, e4, e5⟩ := Wd.text_inj h
  refine ⟨by omega, by omega, ?_, by omega, by omega⟩
  obtain ⟨m, rfl⟩ : ∃ m : Nat, f = m := ⟨f.toNat, by omega⟩
  obtain ⟨m', rfl⟩ : ∃ m : Nat, f' = m := ⟨f'.toNat, by omega⟩
  have low : m % 16 = m' % 16 := by
    have k : ∀ (n b : Nat), n ≤ 65535 → b ≤ 65535 → bitB (n : Int) (b : Int) = (n &&& b != 0) := by
      intro n b h1 h2
      unfold bitB
      rw [and_u16 n b h1 h2]
      have e : ((n &&& b : Nat) : Int) = 0 ↔ n &&& b = 0 := by omega
      rw [Bool.eq_iff_iff]
      simp only [bne_iff_ne, ne_eq, e]
    have c0 := k m 1 (by omega) (by decide)
    have c1 := k m 2 (by omega) (by decide)
    have c2 := k m 4 (by omega) (by decide)
    have c3 := k m 8 (by omega) (by decide)
    have d0 := k m' 1 (by omega) (by decide)
    have d1 := k m' 2 (by omega) (by decide)
    have d2 := k m' 4 (by omega) (by decide)
    have d3 := k m' 8 (by omega) (by decide)
    have g0 : (m &&& 1 != 0) = (m' &&& 1 != 0) := by rw [← c0, ← d0]; exact b0
    have g1 : (m &&& 2 != 0) = (m' &&& 2 != 0) := by rw [← c1, ← d1]; exact b1
    have g2 : (m &&& 4 != 0) = (m' &&& 4 != 0) := by rw [← c2, ← d2]; exact b2
    have g3 : (m &&& 8 != 0) = (m' &&& 8 != 0) := by rw [← c3, ← d3]; exact b3
    have red : ∀ n : Nat, (n &&& 1 = n % 16 &&& 1) ∧ (n &&& 2 = n % 16 &&& 2) ∧ (n &&& 4 = n % 16 &&& 4) ∧ (n &&& 8 = n % 16 &&& 8) := by
      intro n
      have e : n % 16 = n &&& 15 := by rw [show (15 : Nat) = 2 ^ 4 - 1 from rfl, Nat.and_two_pow_sub_one_eq_mod]
      rw [e]
      refine ⟨?_, ?_, ?_, ?_⟩ <;> rw [Nat.and_assoc] <;> rfl
    rw [(red m).1, (red m').1] at g0
    rw [(red m).2.1, (red m').2.1] at g1
    rw [(red m).2.2.1, (red m').2.2.1] at g2
    rw [(red m).2.2.2, (red m').2.2.2] at g3
    have hm : m % 16 < 16 := Nat.mod_lt _ (by decide)
    have hm' : m' % 16 < 16 := Nat.mod_lt _ (by decide)
    have fin16 : ∀ x y : Fin 16, (x.val &&& 1 != 0) = (y.val &&& 1 != 0) → (x.val &&& 2 != 0) = (y.val &&& 2 != 0) → (x.val &&& 4 != 0) = (y.val &&& 4 != 0) → (x.val &&& 8 != 0) = (y.val &&& 8 != 0) → x.val = y.val := by decide
    exact fin16 ⟨m % 16, hm⟩ ⟨m' % 16, hm'⟩ g0 g1 g2 g3
  omega
end Go.Proofs.YtfpdllckpcjgdaaDoor
