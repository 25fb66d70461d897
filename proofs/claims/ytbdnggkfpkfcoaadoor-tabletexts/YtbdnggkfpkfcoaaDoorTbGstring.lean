/-
  package table at string: IDs of a nil table
-/
import Derived.Test.YtbdnggkfpkfcoaaDoorTbBstring
import Derived.MapKept
import Derived.BigRegion
import Derived.Deep.RegionHeldLaw
namespace Go.Proofs.YtbdnggkfpkfcoaaDoor.Tbstring
open Go.RowKit Go.Maps

variable {own own' : Nat → Nat} {i p k : Nat} {w w' : World} {room : Int} {L : Tl ByteArray} {I : Nat → Prop} {A : Nat → Addr}

set_option maxRecDepth 100000 in
theorem ids_nil (w : World) : Calls Tryd.prog 29 #[.pointer none] w fun e w' => ∃ g cap, e = .returned (.slice (some ⟨g, 0, none⟩) 0 cap) ∧ w.heap.size ≤ g ∧ Aside (w'.ownsRow w.heap.size 37 1 (.slice (some ⟨g, 0, none⟩) 0 cap) 0 []) ∧ Aside (Keeps Nowhere w w') := by
  have hln := len_nil w
  obtain ⟨i0, hi, hz0, hz1, hz2⟩ := info_parts u32info
  go_enter Tryd.func29, Tryd.ntmps29
  go_wp2_with (first
    | (go_at_call 45; refine hln.mono ?_; rintro e w1 ⟨rfl, hw1⟩; subst hw1)
    | (at_make; refine wpList_make_own _ rfl _ _ 63 rfl w1.heap.size 37 i0 (.int .u32 0) 1 Tryd.underlying63 hi hz0 hz1 _ _ _ 0 rfl rfl rfl (by omega) (Nat.zero_le _) (Nat.le_refl _) ?_
       intro w2 hrow2 hg2
       have hh := held_nil w2)
    | (go_at_call 48; refine hh.mono ?_; rintro e w3 ⟨rfl, hw3⟩; subst hw3
       have hrg := run_range_nilMap (P := Tryd.prog) w3 85 37 9 Tryd.underlying85
       have hnx : ∀ ty, (Instr.next (.pointer (some ⟨w3.heap.size, 0, none⟩)) false ty).run Tryd.prog (w3.alloc (.mapIter none 0 #[] 0)) = _ := fun ty => run_next_nilMap _ ty 0 0 #[])
    | go_in)
  refine wp_loop_rounds 1 ?_
  rw [rounds_succ]
  have hrow3 := hrow2.alloc (.mapIter none 0 #[] 0)
  have K3 : Aside (Keeps Nowhere w1 (w3.alloc (.mapIter none 0 #[] 0))) := ⟨(Keeps.mk hg2.os hg2.tape hg2.output hg2.size (fun k hk _ => hg2.block k hk (fun e => by cases e))).alloc _⟩
  have CS := Aside.mk (sort32 w1.heap.size 0 [] _ (owns_any hrow3) (by decide))
  clear hrow2 hrow3
  go_wp2_with (go_at_call 50; refine CS.it.mono ?_; rintro e w6 ⟨rfl, X⟩)
  go_ret
  have e0 : ([] : List Nat).mergeSort (fun x y => decide (x ≤ y)) = [] := by simp
  refine ⟨_, _, rfl, Nat.le_refl _, ⟨?_⟩, ⟨K3.it.next X.it.2 (fun k e hlt => by omega)⟩⟩
  have r := X.it.1
  rw [e0] at r
  exact owns_rebase r (Nat.le_refl _)

end Go.Proofs.YtbdnggkfpkfcoaaDoor.Tbstring
