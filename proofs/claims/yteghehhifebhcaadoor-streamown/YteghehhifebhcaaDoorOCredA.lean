/-
  package credit: what a Send is in memory; less, New, Have, Spend, Grant, Spent
-/
import Derived.Test.YteghehhifebhcaaDoorOSn
import Derived.Test.YteghehhifebhcaaDoorONumSums
namespace Go.Proofs.YteghehhifebhcaaDoor
open Go.RowKit

/-- errors.Is(nil, a sentinel) -/
theorem is_nil (a : Addr) (w : World) : Calls Tryd.prog 34 #[.nilIface, .iface 156 (.pointer (some a))] w fun e w' => e = .returned (.bool false) ∧ w' = w := by
  have q1 := fun w => run_eql_iface_nil_left (P := Tryd.prog) (w := w) 156 (.pointer (some a)) Tryd.underlying30
  go_enter Tryd.func34, Tryd.ntmps34
  go_wp2
  go_ret
  exact ⟨rfl, rfl⟩

section
variable {own own' : Nat → Nat} {i : Nat} {w w' : World} {p : Nat} {W c s : Int} {I : Nat → Prop} {A : Nat → Addr}

def sendCells (W c s : Int) : List Value := [.int .u32 W, .int .u32 c, .int .u64 s]
/-- a Send of i's -/
structure SendO (own : Nat → Nat) (i : Nat) (w : World) (p : Nat) (W c s : Int) : Prop where
  at_ : CellsO own i w p 120 (sendCells W c s)
  w1 : 1 ≤ W
  w2 : W ≤ 2147483647
  c1 : 0 ≤ c
  c2 : c ≤ W
  s1 : 0 ≤ s
  s2 : s ≤ 18446744073709551615
theorem SendO.sn (h : SendO own i w p W c s) (k : Sn I own w own' w') (hi : ¬ I i) : SendO own' i w' p W c s := { h with at_ := h.at_.sn k hi }
theorem SendO.quiet (h : SendO own i w p W c s) (k : Keeps Nowhere w w') : SendO own i w' p W c s := { h with at_ := h.at_.quiet k }
theorem SendO.cell0 (h : SendO own i w p W c s) : w.cell? ⟨p, 0, none⟩ = some (.int .u32 W) := by rw [h.at_.1.cell]; rfl
theorem SendO.cell1 (h : SendO own i w p W c s) : w.cell? ⟨p, 1, none⟩ = some (.int .u32 c) := by rw [h.at_.1.cell]; rfl
theorem SendO.cell2 (h : SendO own i w p W c s) : w.cell? ⟨p, 2, none⟩ = some (.int .u64 s) := by rw [h.at_.1.cell]; rfl

/-- what Spend leaves and answers -/
def spE (c n : Int) : Int := if n < 0 then 2 else if c < n then 5 else 0
def spC (c n : Int) : Int := if n < 0 then c else if c < n then c else c - n
def spS (c s n : Int) : Int := if n < 0 then s else if c < n then s else IntKind.u64.wrap (s + n)
/-- what Grant leaves and answers -/
def grE (W c d : Int) : Int := if W < c + d then 17 else 0
def grC (W c d : Int) : Int := if W < c + d then c else c + d

theorem less_ok (c n : Int) (w : World) (hc : c ≤ 4294967295) (h0 : 0 ≤ n) (h1 : n ≤ c) :
    Calls Tryd.prog 73 #[.int .u32 c, .int .i64 n] w fun e w' => e = .returned (.tuple #[.int .u32 (c - n), .nilIface]) ∧ w' = w := by
  have K := Aside.mk (narrow_ok n w h0 (by omega))
  have L := Aside.mk (sub_ok c n w hc h0 h1)
  go_enter Tryd.func73, Tryd.ntmps73
  go_wp2_with (first | (go_at_call 87; refine K.it.mono ?_; rintro e w' ⟨rfl, rfl⟩) | (go_at_call 88; refine L.it.mono ?_; rintro e w' ⟨rfl, rfl⟩) | fail)
  go_ret2
  exact ⟨rfl, rfl⟩
theorem less_under (c n : Int) (w : World) (hs : SentO A w) (h0 : 0 ≤ n) (hn : n ≤ 4294967295) (h1 : ¬ n ≤ c) :
    Calls Tryd.prog 73 #[.int .u32 c, .int .i64 n] w fun e w' => e = .returned (.tuple #[.int .u32 0, .iface 156 (.pointer (some (A 4)))]) ∧ Aside (Below w.heap.size w w') := by
  have K := Aside.mk (narrow_ok n w h0 hn)
  have L := Aside.mk (sub_under c n w hs h1)
  clear hs
  go_enter Tryd.func73, Tryd.ntmps73
  go_wp2_with (first | (go_at_call 87; refine K.it.mono ?_; rintro e w' ⟨rfl, rfl⟩) | (go_at_call 88; refine L.it.mono ?_; rintro e w1 ⟨rfl, b1⟩; have B1 := Aside.mk b1; clear b1) | fail)
  go_ret2
  exact ⟨rfl, B1⟩
theorem less_range (c n : Int) (w : World) (hs : SentO A w) (h : n < 0 ∨ 4294967295 < n) :
    Calls Tryd.prog 73 #[.int .u32 c, .int .i64 n] w fun e w' => e = .returned (.tuple #[.int .u32 0, .iface 156 (.pointer (some (A 1)))]) ∧ Aside (Below w.heap.size w w') := by
  have K := Aside.mk (narrow_no n w hs h)
  clear hs
  go_enter Tryd.func73, Tryd.ntmps73
  go_wp2_with (first | (go_at_call 87; refine K.it.mono ?_; rintro e w1 ⟨rfl, b1⟩; have B1 := Aside.mk b1; clear b1) | fail)
  go_ret2
  exact ⟨rfl, B1⟩

theorem newC_ok (n : Int) (w : World) (own : Nat → Nat) (i : Nat) (h1 : 1 ≤ n) (h2 : n ≤ 2147483647) :
    Calls Tryd.prog 31 #[.int .i64 n] w fun e w' => ∃ p own', e = .returned (.tuple #[ptr p, .nilIface]) ∧ Aside (SendO own' i w' p n n 0 ∧ w.heap.size ≤ p ∧ Sn (fun _ => False) own w own' w') := by
  have a1 : ¬ n < 1 := by omega
  have a2 : ¬ 2147483647 < n := by omega
  go_enter Tryd.func31, Tryd.ntmps31
  go_wp2
  go_ret2
  refine ⟨w.heap.size, rfl, give own w.heap.size i, ⟨⟨⟨?_, give_new (Nat.le_refl _)⟩, h1, h2, by omega, Int.le_refl _, by decide, by decide⟩, Nat.le_refl _, Sn.quiet ?_ i⟩⟩
  · exact Cells.new w _ _
  · exact (Keeps.refl _ _).alloc _
theorem newC_no (n : Int) (w : World) (hs : SentO A w) (h : n < 1 ∨ 2147483647 < n) :
    Calls Tryd.prog 31 #[.int .i64 n] w fun e w' => e = .returned (.tuple #[.pointer none, .iface 156 (.pointer (some (A 1)))]) ∧ Aside (Keeps Nowhere w w') := by
  have hc := hs.cell 1 0 rfl
  clear hs
  rcases h with h | h
  · go_enter Tryd.func31, Tryd.ntmps31
    go_wp2
    go_quiet (fail)
    go_wp2
    go_ret2
    exact ⟨rfl, ⟨(Keeps.refl _ _).drewN _⟩⟩
  · have h0' : ¬ n < 1 := by omega
    go_enter Tryd.func31, Tryd.ntmps31
    go_wp2
    go_quiet (fail)
    go_wp2
    go_ret2
    exact ⟨rfl, ⟨(Keeps.refl _ _).drewN _⟩⟩
theorem haveC (h : SendO own i w p W c s) : Calls Tryd.prog 47 #[ptr p] w fun e w' => e = .returned (.int .u32 c) ∧ w' = w := by
  have c1 := h.cell1
  clear h
  go_enter Tryd.func47, Tryd.ntmps47
  go_wp2
  go_ret
  exact ⟨rfl, rfl⟩
theorem have_nil (w : World) : Calls Tryd.prog 47 #[.pointer none] w fun e w' => e = .returned (.int .u32 0) ∧ w' = w := by
  go_enter Tryd.func47, Tryd.ntmps47
  go_wp2
  go_ret
  exact ⟨rfl, rfl⟩
theorem spend_nil (n : Int) (hs : SentO A w) : Calls Tryd.prog 49 #[.pointer none, .int .i64 n] w fun e w' => e = .returned (.iface 156 (.pointer (some (A 0)))) ∧ Aside (Keeps Nowhere w w') := by
  have hc := hs.cell 0 3 rfl
  clear hs
  go_enter Tryd.func49, Tryd.ntmps49
  go_wp2
  go_ret
  exact ⟨rfl, ⟨Keeps.refl _ _⟩⟩
theorem grant_nil (n : Int) (hs : SentO A w) : Calls Tryd.prog 43 #[.pointer none, .int .u32 n] w fun e w' => e = .returned (.iface 156 (.pointer (some (A 0)))) ∧ Aside (Keeps Nowhere w w') := by
  have hc := hs.cell 0 3 rfl
  clear hs
  go_enter Tryd.func43, Tryd.ntmps43
  go_wp2
  go_ret
  exact ⟨rfl, ⟨Keeps.refl _ _⟩⟩
end
end Go.Proofs.YteghehhifebhcaaDoor
