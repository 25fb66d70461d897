/-
  TopNumbers: the walks
-/
import Derived.Test.YtfinkdggalaaoaaDoorNumHolds
import Derived.Test.YtfinkdggalaaoaaDoorIsViol
import Derived.Test.YtfinkdggalaaoaaDoorMem
namespace Go.Proofs.YtfinkdggalaaoaaDoor
open Go.RowKit

/-- the elements of a slice of numbers, one by one -/
theorem Holds.at' {k : IntKind} {w : World} {a : Option Addr} {len cap : Nat} {ns : List Int} (h : Holds k w (.slice a len cap) ns) (hpos : 0 < len) :
    ∃ b o, a = some ⟨b, o, none⟩ ∧ ∀ i, i < len → w.cell? ⟨b, o + i, none⟩ = some (.int k (ns.getD i 0)) := by
  obtain ⟨a', len', cap', e, hl, hc⟩ := h
  cases e
  obtain ⟨x, rfl, h0⟩ := hc 0 hpos
  have hall : ∀ i, i < ns.length → w.cell? (x.add i) = some (.int k (ns.getD i 0)) := fun i hi => by
    obtain ⟨y, hy, hcell⟩ := hc i (by omega)
    cases hy
    exact hcell
  obtain ⟨b, o, rfl, hc'⟩ := ints_at hall (by omega)
  exact ⟨b, o, rfl, fun i hi => by simpa using hc' i (by omega)⟩

set_option maxHeartbeats 1000000 in
theorem sameInts_eq (v1 v2 : Value) (ns : List Int) (w : World) (h1 : Holds .i64 w v1 ns) (h2 : Holds .i64 w v2 ns) (hn : ns.length ≤ 1000 ∧ 0 < ns.length) :
    Calls Tryd.prog 29 #[v1, v2] w fun e w' => e = .returned (.bool true) ∧ Below w.heap.size w w' := by
  obtain ⟨a1, len, cap1, rfl, hl1, _⟩ := id h1
  obtain ⟨a2, len2, cap2, rfl, hl2, _⟩ := id h2
  obtain rfl : len2 = len := by omega
  obtain ⟨b1, o1, rfl, c1⟩ := h1.at' (by omega)
  obtain ⟨b2, o2, rfl, c2⟩ := h2.at' (by omega)
  obtain ⟨hn1, hn0⟩ := hn
  have C1 : Hid (∀ i, i < len2 → w.cell? ⟨b1, o1 + i, none⟩ = some (.int .i64 (ns.getD i 0))) := c1
  have C2 : Hid (∀ i, i < len2 → w.cell? ⟨b2, o2 + i, none⟩ = some (.int .i64 (ns.getD i 0))) := c2
  have hlen : len2 ≤ 1000 := by omega
  clear h1 h2 c1 c2 hl1 hl2 hn1 hn0
  go_enter Tryd.func29, Tryd.ntmps29
  go_wp2
  go_loopw [5] (fun i wx => ∃ m d : Nat, m ≤ len2 ∧ i = .int .i64 (m : Int) ∧ wx = w.drewN d) (fun i _ => len2 - (intOf i).toNat)
  case atStart => exact ⟨0, 0, by omega, rfl, rfl⟩
  case round =>
    obtain ⟨m, dd, hm, rfl, rfl⟩ := hrel
    by_cases hlt : m < len2
    · have e1 := C1.out m hlt
      have e2 := C2.out m hlt
      have hlt' : (m : Int) < (len2 : Int) := by omega
      generalize ns.getD m 0 = x at *
      go_wp2
      go_quiet (fail)
      go_wp2
      go_roundw
      case rel => exact ⟨m + 1, _, by omega, by go_num, rfl⟩
      case measure => simp [intOf]; omega
    · go_wp2
      go_ret
      exact ⟨rfl, below_drewN (Below.refl _ _) _⟩

def limList : List Int := [2147483647, 2147483647, 1048576, 65536, 4096, 1024, 1024, 1048576, 2147483647, 64, 2147483648, 1048576, 65536, 1048576, 1099511627776, 1099511627776, 1048576, 256, 65536, 16, 12]
set_option maxRecDepth 100000 in
set_option maxHeartbeats 4000000 in
theorem limits_true (w : World) : Calls Tryd.prog 24 #[] w fun e w' => e = .returned (.bool true) ∧ Below w.heap.size w w' := by
  have hh1 : Holds .i64 ((w.alloc (.cells (limList.map (Value.int .i64)).toArray 3)).alloc (.cells (limList.map (Value.int .i64)).toArray 3)) (.slice (some ⟨w.heap.size, 0, none⟩) 21 21) limList :=
    (holds_new w limList 3 21 rfl).later ((Below.refl _ _).alloc (Nat.le_refl _) _)
  have hh2 : Holds .i64 ((w.alloc (.cells (limList.map (Value.int .i64)).toArray 3)).alloc (.cells (limList.map (Value.int .i64)).toArray 3)) (.slice (some ⟨w.heap.size + 1, 0, none⟩) 21 21) limList := by
    have := holds_new (k := .i64) (w.alloc (.cells (limList.map (Value.int .i64)).toArray 3)) limList 3 21 rfl
    rw [heap_alloc, Array.size_push] at this
    exact this
  have HC : Hid (Calls Tryd.prog 29 #[.slice (some ⟨w.heap.size, 0, none⟩) 21 21, .slice (some ⟨w.heap.size + 1, 0, none⟩) 21 21] ((w.alloc (.cells (limList.map (Value.int .i64)).toArray 3)).alloc (.cells (limList.map (Value.int .i64)).toArray 3))
      fun e w' => e = .returned (.bool true) ∧ Below ((w.alloc (.cells (limList.map (Value.int .i64)).toArray 3)).alloc (.cells (limList.map (Value.int .i64)).toArray 3)).heap.size ((w.alloc (.cells (limList.map (Value.int .i64)).toArray 3)).alloc (.cells (limList.map (Value.int .i64)).toArray 3)) w') := sameInts_eq _ _ limList _ hh1 hh2 ⟨by decide, by decide⟩
  clear hh1 hh2
  go_enter Tryd.func24, Tryd.ntmps24
  go_wp2_with (go_at_call 29; refine HC.out.mono ?_; rintro e w3 ⟨rfl, hb3⟩)
  go_ret
  exact ⟨rfl, (alloc2_below w _ _).trans (hb3.mono (by simp; omega))⟩

def kinList : List Int := [0, 1, 2, 3, 4, 5, 6, 7, 0, 1, 2, 3, 4, 5, 6, 1, 2, 3, 4, 5, 6, 7, 1, 2, 3, 4, 5, 6, 7, 8, 9, 10, 11, 12, 13, 14, 1, 2, 3, 4, 5, 6, 7, 8, 9, 10, 11, 0, 1, 2, 3, 1, 2, 4, 8, 0, 1, 2]
set_option maxRecDepth 100000 in
set_option maxHeartbeats 4000000 in
theorem kinds_true (w : World) : Calls Tryd.prog 25 #[] w fun e w' => e = .returned (.bool true) ∧ Below w.heap.size w w' := by
  have hh1 : Holds .i64 ((w.alloc (.cells (kinList.map (Value.int .i64)).toArray 3)).alloc (.cells (kinList.map (Value.int .i64)).toArray 3)) (.slice (some ⟨w.heap.size, 0, none⟩) 58 58) kinList :=
    (holds_new w kinList 3 58 rfl).later ((Below.refl _ _).alloc (Nat.le_refl _) _)
  have hh2 : Holds .i64 ((w.alloc (.cells (kinList.map (Value.int .i64)).toArray 3)).alloc (.cells (kinList.map (Value.int .i64)).toArray 3)) (.slice (some ⟨w.heap.size + 1, 0, none⟩) 58 58) kinList := by
    have := holds_new (k := .i64) (w.alloc (.cells (kinList.map (Value.int .i64)).toArray 3)) kinList 3 58 rfl
    rw [heap_alloc, Array.size_push] at this
    exact this
  have HC : Hid (Calls Tryd.prog 29 #[.slice (some ⟨w.heap.size, 0, none⟩) 58 58, .slice (some ⟨w.heap.size + 1, 0, none⟩) 58 58] ((w.alloc (.cells (kinList.map (Value.int .i64)).toArray 3)).alloc (.cells (kinList.map (Value.int .i64)).toArray 3))
      fun e w' => e = .returned (.bool true) ∧ Below ((w.alloc (.cells (kinList.map (Value.int .i64)).toArray 3)).alloc (.cells (kinList.map (Value.int .i64)).toArray 3)).heap.size ((w.alloc (.cells (kinList.map (Value.int .i64)).toArray 3)).alloc (.cells (kinList.map (Value.int .i64)).toArray 3)) w') := sameInts_eq _ _ kinList _ hh1 hh2 ⟨by decide, by decide⟩
  clear hh1 hh2
  go_enter Tryd.func25, Tryd.ntmps25
  go_wp2_with (go_at_call 29; refine HC.out.mono ?_; rintro e w3 ⟨rfl, hb3⟩)
  go_ret
  exact ⟨rfl, (alloc2_below w _ _).trans (hb3.mono (by simp; omega))⟩

end Go.Proofs.YtfinkdggalaaoaaDoor
