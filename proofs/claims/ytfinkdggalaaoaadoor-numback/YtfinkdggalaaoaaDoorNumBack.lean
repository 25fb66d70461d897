/-
  NumBack: the walk
-/
import Derived.Test.YtfinkdggalaaoaaDoorNumPacks
import Derived.Test.YtfinkdggalaaoaaDoorNumSums
import Derived.Deep.RegionHeld3
import Derived.Deep.DeepCutAuto
namespace Go.Proofs.YtfinkdggalaaoaaDoor
open Go.RowKit

theorem gX4_be4 (v : Int) : gX 4 (be4 v) = v := by
  rw [four_of _ (by simp [be4])]; simp [be4]; omega
theorem gX2_be2 (v : Int) : gX 2 (be2 v) = v := by
  rw [two_of _ (by simp [be2])]; simp [be2]; omega
theorem Coded.nil {A : Nat → Addr} {u : Value} (h : Coded A u 0) : u = .nilIface := by
  rcases h with ⟨rfl, _⟩ | ⟨i, _, _, _, h⟩
  · rfl
  · omega
theorem be4_take (ns : List Int) (hb : AreBytes ns) (h : 4 ≤ ns.length) : be4 (gX 4 ns) = ns.take 4 := by
  rw [four_of ns h]
  match ns, h, hb with
  | x :: y :: z :: t :: r, _, hb =>
    have hx := hb x (by simp); have hy := hb y (by simp); have hz := hb z (by simp); have ht := hb t (by simp)
    simp [be4]
    omega

theorem Holds.first4 {w : World} {p : Option Addr} {len cap : Nat} {ns : List Int} (hb : AreBytes ns) (hl : ns.length = len) (h4 : (4 : Int) ≤ (len : Int)) (h : Holds .u8 w (.slice p len cap) ns) : Holds .u8 w (.slice p 4 cap) (be4 (gX 4 ns)) := by
  rw [be4_take ns hb (by omega)]
  obtain ⟨a, len', cap', e, hl', hc⟩ := h
  cases e
  refine ⟨p, 4, cap, rfl, by simp; omega, fun i hi => ?_⟩
  obtain ⟨x, hx, hcell⟩ := hc i (by omega)
  exact ⟨x, hx, by rw [hcell]; simp [List.getD, hi]⟩

set_option maxRecDepth 100000 in
set_option maxHeartbeats 2000000 in
theorem numBack_walk {A : Nat → Addr} (a b : Int) (p : Option Addr) (len cap : Nat) (zs : List Int) (w : World) (hs : Sents 74 codeVars A w) (ha : 0 ≤ a) (ha1 : a ≤ 4294967295) (hb : 0 ≤ b) (hb1 : b ≤ 4294967295) (hr : IsRow .u8 w p len cap zs) :
    Calls Tryd.prog 5 #[.int .u32 a, .int .u32 b, .slice p len cap] w fun e w' => e = .returned (.bool true) ∧ Below w.heap.size w w' := by
  have hlc : len ≤ cap := by
    rcases hr with ⟨_, rfl, rfl, _⟩ | ⟨_, _, h, _⟩
    · exact Nat.le_refl _
    · exact h
  obtain ⟨hh, hbs⟩ := hr.holds
  clear hr
  have HH : Hid (Holds .u8 w (.slice p len cap) (zs.take len)) := hh
  have HB : Hid (AreBytes (zs.take len)) := hbs
  clear hh hbs
  generalize zs.take len = ns at *
  go_enter Tryd.func5, Tryd.ntmps5
  go_wp2_with fail
  refine (awake_true _ hs).mono ?_
  rintro e w1 ⟨rfl, q1⟩
  go_wp2_with fail
  refine (bytes32_h a _ ha ha1).mono ?_
  rintro e w2 ⟨s2, rfl, hh2, hb2⟩
  have q2 := q1.trans (hb2.mono q1.size)
  go_wp2_with fail
  refine (get32_h s2 (be4 a) _ (hs.later q2) hh2.out (be4_bytes a ha ha1)).mono ?_
  rintro e w3 ⟨u3, rfl, hu3, hb3⟩
  have q3 := q2.trans (hb3.mono q2.size)
  rw [gX4_be4 a]
  obtain rfl := Coded.nil hu3.out
  clear hu3 hb3 hb2 q1 q2 hh2
  go_wp2_with fail
  refine (bytes16_h (b % 65536) _ (by omega) (by omega)).mono ?_
  rintro e w4 ⟨s4, rfl, hh4, hb4⟩
  have q4 := q3.trans (hb4.mono q3.size)
  go_wp2_with fail
  refine (get16_h s4 (be2 (b % 65536)) _ (hs.later q4) hh4.out (be2_bytes _ (by omega) (by omega))).mono ?_
  rintro e w5 ⟨u5, rfl, hu5, hb5⟩
  have q5 := q4.trans (hb5.mono q4.size)
  rw [gX2_be2]
  obtain rfl := Coded.nil hu5.out
  clear hu5 hb5 hb4 q3 q4 hh4
  go_wp2_with fail
  refine (get32_h (.slice p len cap) ns _ (hs.later q5) (HH.out.later q5) HB.out).mono ?_
  rintro e w6 ⟨u6, rfl, hu6, hb6⟩
  have q6 := q5.trans (hb6.mono q5.size)
  clear q5 hb6
  have hl : ns.length = len := by obtain ⟨_, _, _, e, h, _⟩ := HH.out; cases e; exact h
  go_upto_region 8 with fail
  go_cut [71] (fun c wx => c = .bool false ∧ Below w.heap.size w wx)
  case first =>
    by_cases h4 : len < 4
    · obtain ⟨i, hi, rfl⟩ : ∃ i, i < 42 ∧ u6 = .iface 74 (.pointer (some (A i))) := by
        have := hu6.out
        rw [gE, if_pos (by omega)] at this
        rcases this with ⟨_, h⟩ | ⟨i, hi, _, h, _⟩
        · omega
        · exact ⟨i, hi, h⟩
      have hd4 : decide ((4 : Int) ≤ (len : Int)) = false := by simp; omega
      have h4' : (len : Int) < 4 := by omega
      clear hu6
      go_quiet (fail)
      go_wp2
      go_meet
      exact ⟨rfl, below_drewN q6 _⟩
    · obtain rfl : u6 = .nilIface := by
        apply Coded.nil (A := A)
        have := hu6.out
        rw [gE, if_neg (by omega)] at this
        exact this
      clear hu6
      have h4' : (4 : Int) ≤ (len : Int) := by omega
      have h4c : (4 : Int) ≤ (cap : Int) := by omega
      have hd4 : decide ((4 : Int) ≤ (len : Int)) = true := by simpa using h4'
      go_region_held3 (fun w' => True) (trivial) (first
        | (go_at_call 10; refine (bytes32_h _ _ ?_ ?_).mono ?_; exact (gX4_bounds HB.out).1; exact (gX4_bounds HB.out).2; rintro e w7 ⟨s7, rfl, hh7, hb7⟩)
        | (go_at_call 9; refine (sameBytes_eq _ _ (be4 (gX 4 ns)) _ ?_ ?_ ?_).mono ?_; exact hh7.out; exact Holds.first4 HB.out hl h4' (HH.out.later (q6.drew.trans (hb7.mono q6.size))); exact be4_bytes _ (gX4_bounds HB.out).1 (gX4_bounds HB.out).2; rintro e w' ⟨rfl, rfl⟩))
      go_wp2
      go_meet
      exact ⟨rfl, q6.drew.trans (hb7.mono q6.size)⟩
  case rest =>
    obtain ⟨rfl, q⟩ := hcut
    clear hu6 q6
    have hsq := hs.later q
    by_cases hab : a + b ≤ 4294967295
    · have hge : a ≤ a + b := by omega
      go_wp2_with fail
      refine (add_ok a b _ ha hb hab).mono ?_
      rintro e w' ⟨rfl, rfl⟩
      go_wp2_with fail
      refine (sub_ok (a + b) b _ hab hb (by omega)).mono ?_
      rintro e w' ⟨rfl, rfl⟩
      have hbk : a + b - b = a := by omega
      rw [hbk]
      clear hbk
      by_cases hle : b ≤ a
      · go_wp2_with fail
        refine (sub_ok a b _ ha1 hb hle).mono ?_
        rintro e w' ⟨rfl, rfl⟩
        go_wp2_with fail
        refine (add_ok (a - b) b _ (by omega) hb (by omega)).mono ?_
        rintro e w' ⟨rfl, rfl⟩
        have hbk : a - b + b = a := by omega
        rw [hbk]
        clear hbk
        go_wp2
        go_ret
        exact ⟨rfl, q⟩
      · have hlt : a < b := by omega
        go_wp2_with fail
        refine (sub_under a b _ hsq (by omega)).mono ?_
        rintro e w8 ⟨rfl, hb8⟩
        go_wp2
        go_ret
        exact ⟨rfl, q.trans (hb8.mono q.size)⟩
    · go_wp2_with fail
      refine (add_over a b _ hsq ha ha1 (by omega)).mono ?_
      rintro e w7 ⟨rfl, hb7⟩
      have q7 := q.trans (hb7.mono q.size)
      have hs7 := hs.later q7
      clear hb7 q hsq
      by_cases hle : b ≤ a
      · go_wp2_with fail
        refine (sub_ok a b _ ha1 hb hle).mono ?_
        rintro e w' ⟨rfl, rfl⟩
        go_wp2_with fail
        refine (add_ok (a - b) b _ (by omega) hb (by omega)).mono ?_
        rintro e w' ⟨rfl, rfl⟩
        have hbk : a - b + b = a := by omega
        rw [hbk]
        clear hbk
        go_wp2
        go_ret
        exact ⟨rfl, q7⟩
      · have hlt : a < b := by omega
        go_wp2_with fail
        refine (sub_under a b _ hs7 (by omega)).mono ?_
        rintro e w8 ⟨rfl, hb8⟩
        go_wp2
        go_ret
        exact ⟨rfl, q7.trans (hb8.mono q7.size)⟩
end Go.Proofs.YtfinkdggalaaoaaDoor
