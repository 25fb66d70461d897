/-
  errors.Is at a Violation of package api: its own Is and Unwrap are walked.
-/
import Derived.Test.YtbbldkldgjmmgaaGreatDoorIs
namespace Go.Proofs.YtbbldkldgjmmgaaGreatDoor
open Go.RowKit Go.Extern.Stop Go.Stop Go.Extern

theorem Tryz.hasIsV (v : Value) (xT : TypeId) (w : World) : (Instr.typeAssert (.iface 94 v) xT 193 true).run Tryz.prog w = .ok (.tuple #[.iface 94 v, .bool true]) w := run_typeAssert_hasB Tryz.underlying193 (by kernel_rfl) v xT w
theorem Tryz.hasUnwrapV (v : Value) (xT : TypeId) (w : World) : (Instr.typeAssert (.iface 94 v) xT 166 true).run Tryz.prog w = .ok (.tuple #[.iface 94 v, .bool true]) w := run_typeAssert_hasB Tryz.underlying166 (by kernel_rfl) v xT w
theorem Tryz.methodIsV (v : Value) (w : World) : (Go.method 335 94 v "Is").run Tryz.prog w = .ok (154, v) w := by kernel_rfl
theorem Tryz.methodUnwrapV (v : Value) (w : World) : (Go.method 335 94 v "Unwrap").run Tryz.prog w = .ok (155, v) w := by kernel_rfl

/-- errors.Is(v, ErrProtocol), v a Violation -/
theorem is_viol_protocol (vb : Nat) (t : Addr) (w : World) (hc : w.cell? ⟨22, 0, none⟩ = some (.iface 204 (.pointer (some t)))) :
    Calls Tryz.prog 80 #[.iface 94 (.pointer (some ⟨vb, 0, none⟩)), .iface 204 (.pointer (some t))] w fun e w' => e = .returned (.bool true) ∧ w' = w := by
  obtain ⟨i, hi, hcmp⟩ := Option.map_eq_some_iff.1 Tryz.isComp
  obtain ⟨j, hj, hjs⟩ := Option.map_eq_some_iff.1 Tryz.isSize
  have h8 := @run_callFunc_extern Tryz.prog 102 _ Extern.ReflectliteType.typeOf Tryz.func102 (by kernel_rfl) (by kernel_rfl) (by kernel_rfl) (by kernel_rfl)
  have h32 := @run_callFunc_extern Tryz.prog 161 _ cmpEntry Tryz.func161 (by kernel_rfl) (by kernel_rfl) (by kernel_rfl) (by kernel_rfl)
  have tT := Tryz.isTypeOf
  have cT := Tryz.isComparable
  have mR := Tryz.isMethodComparable
  have aI := Tryz.hasIsV
  have mI := Tryz.methodIsV
  have heq := run_eql_iface_ptr_same (P := Tryz.prog) w t Tryz.underlying25 Tryz.underlying204 hi hcmp hj
  have hty := run_eql_iface_types (P := Tryz.prog) 94 204 (.pointer (some ⟨vb, 0, none⟩)) (.pointer (some t)) Tryz.underlying25 (by decide) w
  go_enter Tryz.func80, Tryz.ntmps80
  go_wp2
  refine wp_loop_rounds 1 ?_
  rw [rounds_succ]
  go_wp2
  go_ret
  exact ⟨rfl, rfl⟩

/-- errors.Is(v, x), v a Violation whose Why is x, x another than ErrProtocol -/
theorem is_viol_why (vb : Nat) (t x : Addr) (w : World) (hc : w.cell? ⟨22, 0, none⟩ = some (.iface 204 (.pointer (some t)))) (hw : w.cell? ⟨vb, 1, none⟩ = some (.iface 204 (.pointer (some x))))
    (ct cx : Array Value) (tt tx : TypeId) (hne : x ≠ t) (hx : w.heap[x.block]? = some (.cells cx tx (0, 0))) (ht : w.heap[t.block]? = some (.cells ct tt (0, 0))) :
    Calls Tryz.prog 80 #[.iface 94 (.pointer (some ⟨vb, 0, none⟩)), .iface 204 (.pointer (some x))] w fun e w' => e = .returned (.bool true) ∧ w' = w := by
  obtain ⟨i, hi, hcmp⟩ := Option.map_eq_some_iff.1 Tryz.isComp
  obtain ⟨j, hj, hjs⟩ := Option.map_eq_some_iff.1 Tryz.isSize
  have h8 := @run_callFunc_extern Tryz.prog 102 _ Extern.ReflectliteType.typeOf Tryz.func102 (by kernel_rfl) (by kernel_rfl) (by kernel_rfl) (by kernel_rfl)
  have h32 := @run_callFunc_extern Tryz.prog 161 _ cmpEntry Tryz.func161 (by kernel_rfl) (by kernel_rfl) (by kernel_rfl) (by kernel_rfl)
  have tT := Tryz.isTypeOf
  have cT := Tryz.isComparable
  have mR := Tryz.isMethodComparable
  have aI := Tryz.hasIsV
  have mI := Tryz.methodIsV
  have aU := Tryz.hasUnwrapV
  have mU := Tryz.methodUnwrapV
  have heq := run_eql_iface_ptr_same (P := Tryz.prog) w x Tryz.underlying25 Tryz.underlying204 hi hcmp hj
  have hno := run_eql_iface_ptr_other (P := Tryz.prog) w Tryz.underlying25 Tryz.underlying204 hi hcmp hj (by rw [hjs]; decide) hne hx ht
  have hty := run_eql_iface_types (P := Tryz.prog) 94 204 (.pointer (some ⟨vb, 0, none⟩)) (.pointer (some x)) Tryz.underlying25 (by decide) w
  go_enter Tryz.func80, Tryz.ntmps80
  go_wp2
  refine wp_loop_rounds 2 ?_
  rw [rounds_succ]
  go_wp2
  rw [rounds_succ]
  go_wp2
  go_ret
  exact ⟨rfl, rfl⟩

/-- errors.Is(v, y), v a Violation whose Why is x, y another than x and than ErrProtocol -/
theorem is_viol_other (vb : Nat) (t x y : Addr) (w : World) (hc : w.cell? ⟨22, 0, none⟩ = some (.iface 204 (.pointer (some t)))) (hw : w.cell? ⟨vb, 1, none⟩ = some (.iface 204 (.pointer (some x))))
    (ct cx cy : Array Value) (tt tx ty : TypeId) (hne : y ≠ t) (hxy : x ≠ y) (hx : w.heap[x.block]? = some (.cells cx tx (0, 0))) (hy : w.heap[y.block]? = some (.cells cy ty (0, 0))) (ht : w.heap[t.block]? = some (.cells ct tt (0, 0))) :
    Calls Tryz.prog 80 #[.iface 94 (.pointer (some ⟨vb, 0, none⟩)), .iface 204 (.pointer (some y))] w fun e w' => e = .returned (.bool false) ∧ w' = w := by
  obtain ⟨i, hi, hcmp⟩ := Option.map_eq_some_iff.1 Tryz.isComp
  obtain ⟨j, hj, hjs⟩ := Option.map_eq_some_iff.1 Tryz.isSize
  have h8 := @run_callFunc_extern Tryz.prog 102 _ Extern.ReflectliteType.typeOf Tryz.func102 (by kernel_rfl) (by kernel_rfl) (by kernel_rfl) (by kernel_rfl)
  have h32 := @run_callFunc_extern Tryz.prog 161 _ cmpEntry Tryz.func161 (by kernel_rfl) (by kernel_rfl) (by kernel_rfl) (by kernel_rfl)
  have tT := Tryz.isTypeOf
  have cT := Tryz.isComparable
  have mR := Tryz.isMethodComparable
  have aI := Tryz.hasIsV
  have mI := Tryz.methodIsV
  have aU := Tryz.hasUnwrapV
  have mU := Tryz.methodUnwrapV
  have nE := Tryz.noIsE
  have uE := Tryz.noUnwrapE
  have vE := Tryz.noUnwrapsE
  have hxy' := run_eql_iface_ptr_other (P := Tryz.prog) w Tryz.underlying25 Tryz.underlying204 hi hcmp hj (by rw [hjs]; decide) hxy hx hy
  have hno := run_eql_iface_ptr_other (P := Tryz.prog) w Tryz.underlying25 Tryz.underlying204 hi hcmp hj (by rw [hjs]; decide) hne hy ht
  have hty := run_eql_iface_types (P := Tryz.prog) 94 204 (.pointer (some ⟨vb, 0, none⟩)) (.pointer (some y)) Tryz.underlying25 (by decide) w
  go_enter Tryz.func80, Tryz.ntmps80
  go_wp2
  refine wp_loop_rounds 2 ?_
  rw [rounds_succ]
  go_wp2
  rw [rounds_succ]
  go_wp2
  go_ret
  exact ⟨rfl, rfl⟩

/-- errors.Is of a nil Violation -/
theorem is_viol_nil (t : Addr) (w : World) :
    Calls Tryz.prog 80 #[.iface 94 (.pointer none), .iface 204 (.pointer (some t))] w fun e w' => e = .returned (.bool false) ∧ w' = w := by
  have h8 := @run_callFunc_extern Tryz.prog 102 _ Extern.ReflectliteType.typeOf Tryz.func102 (by kernel_rfl) (by kernel_rfl) (by kernel_rfl) (by kernel_rfl)
  have h32 := @run_callFunc_extern Tryz.prog 161 _ cmpEntry Tryz.func161 (by kernel_rfl) (by kernel_rfl) (by kernel_rfl) (by kernel_rfl)
  have tT := Tryz.isTypeOf
  have cT := Tryz.isComparable
  have mR := Tryz.isMethodComparable
  have aI := Tryz.hasIsV
  have mI := Tryz.methodIsV
  have aU := Tryz.hasUnwrapV
  have mU := Tryz.methodUnwrapV
  have hty := run_eql_iface_types (P := Tryz.prog) 94 204 (.pointer none) (.pointer (some t)) Tryz.underlying25 (by decide) w
  go_enter Tryz.func80, Tryz.ntmps80
  go_wp2
  refine wp_loop_rounds 1 ?_
  rw [rounds_succ]
  go_wp2
  go_ret
  exact ⟨rfl, rfl⟩
end Go.Proofs.YtbbldkldgjmmgaaGreatDoor
