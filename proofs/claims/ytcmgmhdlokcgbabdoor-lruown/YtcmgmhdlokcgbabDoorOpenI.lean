/-
  a list of numbers among the arguments, with its reach.
-/
import Derived.Test.YtcmgmhdlokcgbabDoorOpenL
import Derived.Test.YtcmgmhdlokcgbabDoorRdI
import Derived.OpenShut
import Derived.SizedLaws
namespace Go.Proofs.YtcmgmhdlokcgbabDoor
open Go.ChangeShapes Go.WideShapes Go.RowKit Go.Deep

def IntIOk (z : Int) (cs : List Value) : Prop := cs = [.int .i64 z] ∧ (-9223372036854775808 ≤ z ∧ z ≤ 9223372036854775807)
def IntsIArg (w : World) (v : Value) (zs : List Int) : Prop := RdI w v zs ∧ zs.length * 8 ≤ 140737488351232
section
variable {H : Type} {enc : TypeId × Value → H} {w : World} {base : Nat} {spare : Nat → Bool} {held : Bool}
theorem lone {α : Type} {cs : List α} (h : cs.length = 1) : ∃ c0, cs = [c0] := by
  match cs, h with
  | [c0], _ => exact ⟨c0, rfl⟩
set_option maxRecDepth 100000 in
theorem intsI_open {fuel : Nat} {v : Value} {x : DataW H × List MemPlace} (h : DataW.trod enc Tryd.prog w base spare held fuel 39 [v] = some x) (hw : ∀ n ∈ x.1.weights Tryd.prog 39, n ≤ 140737488351232) : ∃ zs, IntsIArg w v zs := by
  obtain ⟨zs, h1, ⟨a, cap, e, h2, h3, h4⟩⟩ := open_list (k := 1) (by decide) Tryd.underlying39 (by kernel_rfl) IntIOk (fun fuel cs y hl hy hw' hb => by
    obtain ⟨c0, rfl⟩ := lone hl
    obtain ⟨n, e, w1⟩ := open_int1 Tryd.underlying3 hy
    subst e
    exact ⟨n, rfl, bounds_i64 w1⟩) h hw
  refine ⟨zs, ⟨a, cap, e, h2, h3, fun k z hk => ?_⟩, ?_⟩
  · obtain ⟨b, o, cs, ha, hok, hl, hc⟩ := h4 k z hk
    have e1 := hok.1
    subst e1
    have h0 := hc 0 (by decide)
    rw [Nat.mul_one, Nat.add_zero] at h0
    exact ⟨hok.2, b, o, ha, h0⟩
  · subst e
    rcases open_ints Tryd.underlying39 Tryd.underlying3 (by kernel_rfl) h with ⟨hcs, _⟩ | ⟨a', len, cap', ys, hcs, _, hl, hm, hz, hx, _⟩
    · simp at hcs
      have := hcs.2.1
      rw [this]; decide
    · simp at hcs
      have e2 := hcs.2.1
      have hby : Tryd.prog.bytesOf 3 = 8 := by kernel_rfl
      have := hw ((lits .i64 (ys.take len)).length * 8 + (lits .i64 (ys.drop len)).length * 8 : Nat) (by
        rw [hx]
        simp only [DataW.weights, Tryd.underlying39, hby]
        rw [← Nat.add_mul]
        exact List.mem_cons_self ..)
      simp only [lits, List.length_map, List.length_take, List.length_drop] at this
      have hlz : len ≤ ys.length := by rw [hz]; split <;> omega
      omega
end
end Go.Proofs.YtcmgmhdlokcgbabDoor
