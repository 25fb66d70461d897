/-
  NumPacks: the walk
-/
import Derived.Test.YtfinkdggalaaoaaDoorNumHolds
import Derived.Test.YtfinkdggalaaoaaDoorLaid
namespace Go.Proofs.YtfinkdggalaaoaaDoor
open Go.RowKit

/-- the elements of an argument -/
theorem IsRow.holds {w : World} {a : Option Addr} {len cap : Nat} {zs : List Int} (h : IsRow .u8 w a len cap zs) : Holds .u8 w (.slice a len cap) (zs.take len) ∧ AreBytes (zs.take len) := by
  rcases h with ⟨rfl, rfl, rfl, rfl⟩ | ⟨x, rfl, hlc, _, hz, hc, hw⟩
  · exact ⟨⟨none, 0, 0, rfl, rfl, fun i hi => by omega⟩, fun n hn => by simp at hn⟩
  · refine ⟨⟨some x, len, cap, rfl, by simp; omega, fun i hi => ⟨x, rfl, ?_⟩⟩, fun n hn => bounds_u8 (hw n (List.mem_of_mem_take hn))⟩
    rw [hc i (by omega)]
    simp [List.getD, hi]

set_option maxHeartbeats 2000000 in
theorem numPacks_walk {A : Nat → Addr} (v : Int) (a : Option Addr) (len cap : Nat) (zs : List Int) (w : World) (hs : Sents 74 codeVars A w) (h0 : 0 ≤ v) (h1 : v ≤ 4294967295) (hr : IsRow .u8 w a len cap zs) :
    Calls Tryd.prog 3 #[.int .u32 v, .slice a len cap] w fun e w' => e = .returned (.bool true) ∧ Below w.heap.size w w' := by
  obtain ⟨hh, hbs⟩ := hr.holds
  clear hr
  generalize hv : Value.slice a len cap = s at *
  generalize zs.take len = ns at *
  have HH : Hid (Holds .u8 w s ns) := hh
  have b2 := gX2_bounds hbs
  have b4 := gX4_bounds hbs
  obtain ⟨b2a, b2b⟩ := b2
  obtain ⟨b4a, b4b⟩ := b4
  have HB : Hid (AreBytes ns) := hbs
  clear hh hbs hv
  go_enter Tryd.func3, Tryd.ntmps3
  go_wp2_with fail
  refine (awake_true _ hs).mono ?_
  rintro e w1 ⟨rfl, hb1⟩
  go_wp2_with fail
  refine (bytes32_h v _ h0 h1).mono ?_
  rintro e w2 ⟨s2, rfl, hh2, hb2⟩
  have q2 := hb1.trans (hb2.mono hb1.size)
  go_wp2_with fail
  refine (refBytes4_h v _ h0 h1).mono ?_
  rintro e w3 ⟨s3, rfl, hh3, hb3⟩
  have q3 := q2.trans (hb3.mono q2.size)
  go_wp2_with fail
  refine (sameBytes_eq s2 s3 (be4 v) _ (hh2.out.later hb3) hh3.out (be4_bytes v h0 h1)).mono ?_
  rintro e w' ⟨rfl, rfl⟩
  clear hb1 hb2 hb3 q2 hh2 hh3
  go_wp2_with fail
  refine (bytes16_h (v % 65536) _ (by omega) (by omega)).mono ?_
  rintro e w4 ⟨s4, rfl, hh4, hb4⟩
  have q4 := q3.trans (hb4.mono q3.size)
  go_wp2_with fail
  refine (refBytes2_h (v % 65536) _ (by omega) (by omega)).mono ?_
  rintro e w5 ⟨s5, rfl, hh5, hb5⟩
  have q5 := q4.trans (hb5.mono q4.size)
  go_wp2_with fail
  refine (sameBytes_eq s4 s5 (be2 (v % 65536)) _ (hh4.out.later hb5) hh5.out (be2_bytes _ (by omega) (by omega))).mono ?_
  rintro e w' ⟨rfl, rfl⟩
  clear hb4 hb5 q3 q4 hh4 hh5
  go_wp2_with fail
  refine (get16_h s ns _ (hs.later q5) (HH.out.later q5) HB.out).mono ?_
  rintro e w6 ⟨u6, rfl, hu6, hb6⟩
  have q6 := q5.trans (hb6.mono q5.size)
  go_wp2_with fail
  refine (refGet2_h s ns _ (HH.out.later q6) HB.out).mono ?_
  rintro e w' ⟨rfl, rfl⟩
  go_wp2_with fail
  refine (code_of (hs.later q6) hu6.out).mono ?_
  rintro e w' ⟨rfl, rfl⟩
  clear hb6 q5 hu6
  go_wp2_with fail
  refine (get32_h s ns _ (hs.later q6) (HH.out.later q6) HB.out).mono ?_
  rintro e w7 ⟨u7, rfl, hu7, hb7⟩
  have q7 := q6.trans (hb7.mono q6.size)
  go_wp2_with fail
  refine (refGet4_h s ns _ (HH.out.later q7) HB.out).mono ?_
  rintro e w' ⟨rfl, rfl⟩
  go_wp2_with fail
  refine (code_of (hs.later q7) hu7.out).mono ?_
  rintro e w' ⟨rfl, rfl⟩
  go_wp2
  go_ret
  exact ⟨rfl, q7⟩
end Go.Proofs.YtfinkdggalaaoaaDoor
