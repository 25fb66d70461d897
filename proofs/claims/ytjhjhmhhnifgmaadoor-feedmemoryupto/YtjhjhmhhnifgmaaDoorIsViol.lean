/-
  errors.Is at a Violation of package api: its own Is and Unwrap are walked.
-/
import Derived.Test.YtjhjhmhhnifgmaaDoorIs
namespace Go.Proofs.YtjhjhmhhnifgmaaDoor
open Go.RowKit Go.Extern.Stop Go.Stop Go.Extern

theorem Tryd.hasIsV (v : Value) (xT : TypeId) (w : World) : (Instr.typeAssert (.iface 53 v) xT 110 true).run Tryd.prog w = .ok (.tuple #[.iface 53 v, .bool true]) w := run_typeAssert_hasB Tryd.underlying110 (by kernel_rfl) v xT w
theorem Tryd.hasUnwrapV (v : Value) (xT : TypeId) (w : World) : (Instr.typeAssert (.iface 53 v) xT 106 true).run Tryd.prog w = .ok (.tuple #[.iface 53 v, .bool true]) w := run_typeAssert_hasB Tryd.underlying106 (by kernel_rfl) v xT w
theorem Tryd.methodIsV (v : Value) (w : World) : (Go.method 247 53 v "Is").run Tryd.prog w = .ok (64, v) w := by kernel_rfl
theorem Tryd.methodUnwrapV (v : Value) (w : World) : (Go.method 247 53 v "Unwrap").run Tryd.prog w = .ok (65, v) w := by kernel_rfl

/-- errors.Is(v, ErrProtocol), v a Violation -/
theorem is_viol_protocol (vb : Nat) (t : Addr) (w : World) (hc : w.cell? ⟨28, 0, none⟩ = some (.iface 116 (.pointer (some t)))) :
    Calls Tryd.prog 24 #[.iface 53 (.pointer (some ⟨vb, 0, none⟩)), .iface 116 (.pointer (some t))] w fun e w' => e = .returned (.bool true) ∧ w' = w := by
  obtain ⟨i, hi, hcmp⟩ := Option.map_eq_some_iff.1 Tryd.isComp
  obtain ⟨j, hj, hjs⟩ := Option.map_eq_some_iff.1 Tryd.isSize
  have h8 := @run_callFunc_extern Tryd.prog 34 _ Extern.ReflectliteType.typeOf Tryd.func34 (by kernel_rfl) (by kernel_rfl) (by kernel_rfl) (by kernel_rfl)
  have h32 := @run_callFunc_extern Tryd.prog 71 _ cmpEntry Tryd.func71 (by kernel_rfl) (by kernel_rfl) (by kernel_rfl) (by kernel_rfl)
  have tT := Tryd.isTypeOf
  have cT := Tryd.isComparable
  have mR := Tryd.isMethodComparable
  have aI := Tryd.hasIsV
  have mI := Tryd.methodIsV
  have heq := run_eql_iface_ptr_same (P := Tryd.prog) w t Tryd.underlying26 Tryd.underlying116 hi hcmp hj
  have hty := run_eql_iface_types (P := Tryd.prog) 53 116 (.pointer (some ⟨vb, 0, none⟩)) (.pointer (some t)) Tryd.underlying26 (by decide) w
  go_enter Tryd.func24, Tryd.ntmps24
  go_wp2
  refine wp_loop_rounds 1 ?_
  rw [rounds_succ]
  go_wp2
  go_ret
  exact ⟨rfl, rfl⟩

/-- errors.Is(v, x), v a Violation whose Why is x, x another than ErrProtocol -/
theorem is_viol_why (vb : Nat) (t x : Addr) (w : World) (hc : w.cell? ⟨28, 0, none⟩ = some (.iface 116 (.pointer (some t)))) (hw : w.cell? ⟨vb, 1, none⟩ = some (.iface 116 (.pointer (some x))))
    (ct cx : Array Value) (tt tx : TypeId) (hne : x ≠ t) (hx : w.heap[x.block]? = some (.cells cx tx (0, 0))) (ht : w.heap[t.block]? = some (.cells ct tt (0, 0))) :
    Calls Tryd.prog 24 #[.iface 53 (.pointer (some ⟨vb, 0, none⟩)), .iface 116 (.pointer (some x))] w fun e w' => e = .returned (.bool true) ∧ w' = w := by
  obtain ⟨i, hi, hcmp⟩ := Option.map_eq_some_iff.1 Tryd.isComp
  obtain ⟨j, hj, hjs⟩ := Option.map_eq_some_iff.1 Tryd.isSize
  have h8 := @run_callFunc_extern Tryd.prog 34 _ Extern.ReflectliteType.typeOf Tryd.func34 (by kernel_rfl) (by kernel_rfl) (by kernel_rfl) (by kernel_rfl)
  have h32 := @run_callFunc_extern Tryd.prog 71 _ cmpEntry Tryd.func71 (by kernel_rfl) (by kernel_rfl) (by kernel_rfl) (by kernel_rfl)
  have tT := Tryd.isTypeOf
  have cT := Tryd.isComparable
  have mR := Tryd.isMethodComparable
  have aI := Tryd.hasIsV
  have mI := Tryd.methodIsV
  have aU := Tryd.hasUnwrapV
  have mU := Tryd.methodUnwrapV
  have heq := run_eql_iface_ptr_same (P := Tryd.prog) w x Tryd.underlying26 Tryd.underlying116 hi hcmp hj
  have hno := run_eql_iface_ptr_other (P := Tryd.prog) w Tryd.underlying26 Tryd.underlying116 hi hcmp hj (by rw [hjs]; decide) hne hx ht
  have hty := run_eql_iface_types (P := Tryd.prog) 53 116 (.pointer (some ⟨vb, 0, none⟩)) (.pointer (some x)) Tryd.underlying26 (by decide) w
  go_enter Tryd.func24, Tryd.ntmps24
  go_wp2
  refine wp_loop_rounds 2 ?_
  rw [rounds_succ]
  go_wp2
  rw [rounds_succ]
  go_wp2
  go_ret
  exact ⟨rfl, rfl⟩

/-- errors.Is(v, y), v a Violation whose Why is x, y another than x and than ErrProtocol -/
theorem is_viol_other (vb : Nat) (t x y : Addr) (w : World) (hc : w.cell? ⟨28, 0, none⟩ = some (.iface 116 (.pointer (some t)))) (hw : w.cell? ⟨vb, 1, none⟩ = some (.iface 116 (.pointer (some x))))
    (ct cx cy : Array Value) (tt tx ty : TypeId) (hne : y ≠ t) (hxy : x ≠ y) (hx : w.heap[x.block]? = some (.cells cx tx (0, 0))) (hy : w.heap[y.block]? = some (.cells cy ty (0, 0))) (ht : w.heap[t.block]? = some (.cells ct tt (0, 0))) :
    Calls Tryd.prog 24 #[.iface 53 (.pointer (some ⟨vb, 0, none⟩)), .iface 116 (.pointer (some y))] w fun e w' => e = .returned (.bool false) ∧ w' = w := by
  obtain ⟨i, hi, hcmp⟩ := Option.map_eq_some_iff.1 Tryd.isComp
  obtain ⟨j, hj, hjs⟩ := Option.map_eq_some_iff.1 Tryd.isSize
  have h8 := @run_callFunc_extern Tryd.prog 34 _ Extern.ReflectliteType.typeOf Tryd.func34 (by kernel_rfl) (by kernel_rfl) (by kernel_rfl) (by kernel_rfl)
  have h32 := @run_callFunc_extern Tryd.prog 71 _ cmpEntry Tryd.func71 (by kernel_rfl) (by kernel_rfl) (by kernel_rfl) (by kernel_rfl)
  have tT := Tryd.isTypeOf
  have cT := Tryd.isComparable
  have mR := Tryd.isMethodComparable
  have aI := Tryd.hasIsV
  have mI := Tryd.methodIsV
  have aU := Tryd.hasUnwrapV
  have mU := Tryd.methodUnwrapV
  have nE := Tryd.noIsE
  have uE := Tryd.noUnwrapE
  have vE := Tryd.noUnwrapsE
  have hxy' := run_eql_iface_ptr_other (P := Tryd.prog) w Tryd.underlying26 Tryd.underlying116 hi hcmp hj (by rw [hjs]; decide) hxy hx hy
  have hno := run_eql_iface_ptr_other (P := Tryd.prog) w Tryd.underlying26 Tryd.underlying116 hi hcmp hj (by rw [hjs]; decide) hne hy ht
  have hty := run_eql_iface_types (P := Tryd.prog) 53 116 (.pointer (some ⟨vb, 0, none⟩)) (.pointer (some y)) Tryd.underlying26 (by decide) w
  go_enter Tryd.func24, Tryd.ntmps24
  go_wp2
  refine wp_loop_rounds 2 ?_
  rw [rounds_succ]
  go_wp2
  rw [rounds_succ]
  go_wp2
  go_ret
  exact ⟨rfl, rfl⟩

/-- errors.Is of a nil Violation -/
theorem is_viol_nil (t : Addr) (w : World) :
    Calls Tryd.prog 24 #[.iface 53 (.pointer none), .iface 116 (.pointer (some t))] w fun e w' => e = .returned (.bool false) ∧ w' = w := by
  have h8 := @run_callFunc_extern Tryd.prog 34 _ Extern.ReflectliteType.typeOf Tryd.func34 (by kernel_rfl) (by kernel_rfl) (by kernel_rfl) (by kernel_rfl)
  have h32 := @run_callFunc_extern Tryd.prog 71 _ cmpEntry Tryd.func71 (by kernel_rfl) (by kernel_rfl) (by kernel_rfl) (by kernel_rfl)
  have tT := Tryd.isTypeOf
  have cT := Tryd.isComparable
  have mR := Tryd.isMethodComparable
  have aI := Tryd.hasIsV
  have mI := Tryd.methodIsV
  have aU := Tryd.hasUnwrapV
  have mU := Tryd.methodUnwrapV
  have hty := run_eql_iface_types (P := Tryd.prog) 53 116 (.pointer none) (.pointer (some t)) Tryd.underlying26 (by decide) w
  go_enter Tryd.func24, Tryd.ntmps24
  go_wp2
  refine wp_loop_rounds 1 ?_
  rw [rounds_succ]
  go_wp2
  go_ret
  exact ⟨rfl, rfl⟩
end Go.Proofs.YtjhjhmhhnifgmaaDoor
