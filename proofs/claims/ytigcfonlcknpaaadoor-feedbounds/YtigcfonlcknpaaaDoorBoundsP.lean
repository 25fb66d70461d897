/-
  FeedBounds: what the bytes that are wanted make, and less.
-/
import Derived.Test.YtigcfonlcknpaaaDoorGives
import Derived.Test.YtigcfonlcknpaaaDoorOpenB
import Derived.Deep.DeepCutAuto
namespace Go.Proofs.YtigcfonlcknpaaaDoor
open Go.RowKit

section
variable {most : Int} {hs x : List Int}
theorem szN_le (h : List Int) (hb : AreBytes h) (hm : 1 ≤ most) (hc : ckH most h = true) : (szN h : Int) ≤ most := by
  have hl := dL_bounds hb
  rw [← szH_nat hb]
  have h0 : chkH most h = 0 := of_decide_eq_true hc
  unfold chkH chk at h0
  split at h0
  · cases h0
  split at h0
  · cases h0
  split at h0
  · cases h0
  split at h0
  · cases h0
  split at h0
  · cases h0
  · rename_i hk
    unfold szH
    split
    · rename_i ht
      simp only [Bool.not_eq_false] at hk
      unfold lenOk at hk
      split at hk
      · have := of_decide_eq_true hk
        simp at hk
        omega
      · rw [if_pos (by simp [ht])] at hk
        have := of_decide_eq_true hk
        omega
    · omega
theorem live_bound (hl : Live (ckH most) szN hs) (hb : AreBytes hs) (hm : 1 ≤ most) : (hs.length : Int) ≤ 11 + most := by
  rcases hl with h | ⟨_, hc, h⟩
  · omega
  · have := szN_le (hs.take 12) (hb.take 12) hm hc
    omega
theorem wants_bound (hl : Live (ckH most) szN hs) (hb : AreBytes hs) (hm : 1 ≤ most) (hm2 : most ≤ 65536) : wantsP szN hs ≤ 65548 := by
  unfold wantsP
  rcases hl with h | ⟨_, hc, h⟩
  · rw [if_pos h]; omega
  · have := szN_le (hs.take 12) (hb.take 12) hm hc
    split <;> omega
theorem live_less (hl : Live (ckH most) szN hs) (hx : x.length < wantsP szN hs) : Live (ckH most) szN (hs ++ x) ∧ wantsP szN (hs ++ x) = wantsP szN hs - x.length := by
  unfold wantsP at *
  rcases hl with h | ⟨h1, hc, h⟩
  · rw [if_pos h] at hx ⊢
    have : (hs ++ x).length < 12 := by simp; omega
    exact ⟨.inl this, by rw [if_pos this]; simp; omega⟩
  · rw [if_neg (by omega)] at hx
    have e : (hs ++ x).take 12 = hs.take 12 := List.take_append_of_le_length h1
    have n1 : ¬ hs.length < 12 := by omega
    have n2 : ¬ (hs ++ x).length < 12 := by rw [List.length_append]; omega
    refine ⟨.inr ⟨by simp; omega, by rw [e]; exact hc, by rw [e]; simp; omega⟩, ?_⟩
    rw [if_neg n1, if_neg n2, e, List.length_append]
    omega
theorem feed_less (hl : Live (ckH most) szN hs) (hx : x.length < wantsP szN hs) : feedO most hs none x = ⟨[], hs ++ x, none⟩ := (live_less hl hx).1.parse
theorem feed_upto (hl : Live (ckH most) szN hs) (hx : x.length ≤ wantsP szN hs) : (feedO most hs none x).fs.length ≤ 1 ∧ ((feedO most hs none x).dead ≠ none → (feedO most hs none x).fs = []) := by
  rcases Nat.lt_or_ge x.length (wantsP szN hs) with h | h
  · rw [feed_less hl h]; exact ⟨by simp, fun _ => rfl⟩
  · have he : x.length = wantsP szN hs := by omega
    show (parse (ckH most) szN (hs ++ x)).fs.length ≤ 1 ∧ ((parse (ckH most) szN (hs ++ x)).dead ≠ none → (parse (ckH most) szN (hs ++ x)).fs = [])
    have hlen : (hs ++ x).length = hs.length + x.length := by simp
    unfold wantsP at he
    have fin : ∀ h12 : 12 ≤ (hs ++ x).length, ckH most ((hs ++ x).take 12) = true → (hs ++ x).length = 12 + szN ((hs ++ x).take 12) → (parse (ckH most) szN (hs ++ x)).fs.length ≤ 1 ∧ ((parse (ckH most) szN (hs ++ x)).dead ≠ none → (parse (ckH most) szN (hs ++ x)).fs = []) := fun h12 hc hn => by
      have hd : (hs ++ x).drop (12 + szN ((hs ++ x).take 12)) = [] := List.drop_of_length_le (by omega)
      rw [parse_more h12 hc (by omega), hd, parse_short (ns := []) (by simp)]
      exact ⟨by simp, fun h => absurd rfl h⟩
    rcases hl with h12 | ⟨h1, hc, hh⟩
    · rw [if_pos h12] at he
      have h12' : 12 ≤ (hs ++ x).length := by omega
      cases hck : ckH most ((hs ++ x).take 12) with
      | false => rw [parse_bad h12' hck]; exact ⟨by simp, fun _ => rfl⟩
      | true =>
        by_cases hz : szN ((hs ++ x).take 12) = 0
        · exact fin h12' hck (by omega)
        · rw [parse_part h12' hck (by omega)]; exact ⟨by simp, fun h => absurd rfl h⟩
    · rw [if_neg (by omega)] at he
      have e : (hs ++ x).take 12 = hs.take 12 := List.take_append_of_le_length h1
      exact fin (by omega) (by rw [e]; exact hc) (by rw [e]; omega)
end
end Go.Proofs.YtigcfonlcknpaaaDoor
