/-
  TopNumbers: the law's walk
-/
import Derived.Test.YtfinkdggalaaoaaDoorTopNum
namespace Go.Proofs.YtfinkdggalaaoaaDoor
open Go.RowKit

def topVars : List Nat := [4, 6, 5]

set_option maxRecDepth 100000 in
set_option maxHeartbeats 2000000 in
theorem violations_true {A : Nat → Addr} (w : World) (hs : Sents 74 topVars A w) :
    Calls Tryd.prog 26 #[] w fun e w' => e = .returned (.bool true) ∧ Below w.heap.size w w' := by
  have hb : Below w.heap.size w (w.alloc (.cells #[.int .u32 7, .iface 74 (.pointer (some (A 0)))] 58)) := (Below.refl _ _).alloc (Nat.le_refl _) _
  have hs1 := hs.later hb
  have k0 := hs.cell 0 4 rfl
  have c0 := hs1.cell 0 4 rfl
  have c1 := hs1.cell 1 6 rfl
  have c2 := hs1.cell 2 5 rfl
  obtain ⟨r0, t0, h0⟩ := hs1.row 0 (by decide)
  obtain ⟨r1, t1, h1⟩ := hs1.row 1 (by decide)
  obtain ⟨r2, t2, h2⟩ := hs1.row 2 (by decide)
  have n02 := hs1.ne 0 2 (by decide) (by decide) (by decide)
  have n12 := hs1.ne 1 2 (by decide) (by decide) (by decide)
  have n01 := hs1.ne 0 1 (by decide) (by decide) (by decide)
  have hw : (w.alloc (.cells #[.int .u32 7, .iface 74 (.pointer (some (A 0)))] 58)).cell? ⟨w.heap.size, 1, none⟩ = some (.iface 74 (.pointer (some (A 0)))) := by simp
  have C1 := is_viol_protocol w.heap.size (A 2) _ c2
  have C2 := is_viol_why w.heap.size (A 2) (A 0) _ c2 hw r2 r0 t2 t0 n02 h0 h2
  have C3 := is_viol_other w.heap.size (A 2) (A 0) (A 1) _ c2 hw r2 r0 r1 t2 t0 t1 n12 n01 h0 h1 h2
  have C4 := is_viol_nil (A 2) (w.alloc (.cells #[.int .u32 7, .iface 74 (.pointer (some (A 0)))] 58))
  have C5 := is_other (A 0) (A 2) r0 r2 t0 t2 _ n02 h0 h2
  have H1 := hide C1
  have H2 := hide C2
  have H3 := hide C3
  have H4 := hide C4
  have H5 := hide C5
  clear C1 C2 C3 C4 C5 h0 h1 h2 n02 n12 n01 hs hs1 hw
  go_enter Tryd.func26, Tryd.ntmps26
  go_wp2_with fail
  refine H1.out.mono ?_
  rintro e w' ⟨rfl, rfl⟩
  go_wp2_with fail
  refine H2.out.mono ?_
  rintro e w' ⟨rfl, rfl⟩
  go_wp2_with fail
  refine H3.out.mono ?_
  rintro e w' ⟨rfl, rfl⟩
  go_wp2_with fail
  refine H4.out.mono ?_
  rintro e w' ⟨rfl, rfl⟩
  go_wp2_with fail
  refine H5.out.mono ?_
  rintro e w' ⟨rfl, rfl⟩
  go_wp2
  go_ret
  exact ⟨rfl, hb⟩

set_option maxHeartbeats 1000000 in
theorem topNumbers_walk {A : Nat → Addr} (w : World) (hs : Sents 74 topVars A w) :
    Calls Tryd.prog 7 #[] w fun e w' => e = .returned (.bool true) ∧ Below w.heap.size w w' := by
  go_enter Tryd.func7, Tryd.ntmps7
  go_wp2_with fail
  refine (limits_true _).mono ?_
  rintro e w1 ⟨rfl, q1⟩
  go_wp2_with fail
  refine (kinds_true _).mono ?_
  rintro e w2 ⟨rfl, hb2⟩
  have q2 := q1.trans (hb2.mono q1.size)
  go_wp2_with fail
  refine (violations_true _ (hs.later q2)).mono ?_
  rintro e w3 ⟨rfl, hb3⟩
  go_wp2
  go_ret
  exact ⟨rfl, q2.trans (hb3.mono q2.size)⟩
end Go.Proofs.YtfinkdggalaaoaaDoor
